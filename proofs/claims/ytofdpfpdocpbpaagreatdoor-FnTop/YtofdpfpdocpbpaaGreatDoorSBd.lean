/- Packed. -/
import Derived.Test.YtofdpfpdocpbpaaGreatDoorSAd
import Derived.Test.YtofdpfpdocpbpaaGreatDoorZonePd
import Derived.Test.YtofdpfpdocpbpaaGreatDoorRightWd
import Derived.Test.YtofdpfpdocpbpaaGreatDoorTabPd
import Derived.Deep.RegionHeld3
import Derived.Sort.Grow
import Derived.Laws.StructEq
import Derived.BigQuiet
import Derived.Lib.SliceRun
import Derived.OwnWalk
set_option maxRecDepth 100000
set_option maxHeartbeats 20000000
set_option linter.unusedSimpArgs false
namespace Go.Proofs.YtofdpfpdocpbpaaGreatDoor
section
open Go.RowKit
structure Za where
 tx:Int
 now:RelD
 was:RelD
 cur:Int
 vs:List VersionD
 ix:List EntryD
structure Zr(r:RelD):Prop where
 ok:r.ok
 sm:r.small
 on:∀x∈r.rules,x.on.size<=1048576
structure StAt(w:World)(v:Value)(s:Za):Prop where
 form:∃a b c d e f va ia ca cb cc cd ce cf cv ci,v=.agg #[.int .i64 s.tx,.slice a s.now.rules.length ca,.slice b s.now.zones.length cb,.slice c s.now.links.length cc,.slice d s.was.rules.length cd,.slice e s.was.zones.length ce,.slice f s.was.links.length cf,.int .i64 s.cur,.slice va s.vs.length cv,.slice ia s.ix.length ci]/\Zi w (.agg #[.slice a s.now.rules.length ca,.slice b s.now.zones.length cb,.slice c s.now.links.length cc]) s.now/\Zi w (.agg #[.slice d s.was.rules.length cd,.slice e s.was.zones.length ce,.slice f s.was.links.length cf]) s.was/\Zd w va 8 (s.vs.map VersionD.cs)/\Zd w ia 2 (s.ix.map EntryD.cs)/\s.vs.length<=cv/\s.ix.length<=ci
theorem StAt.below{w w':World}{v:Value}{s:Za}(h:StAt w v s)(hb:Below w.heap.size w w'):StAt w' v s:=by
 obtain⟨a,b,c,d,e,f,va,ia,ca,cb,cc,cd,ce,cf,cv,ci,hv,h1,h2,h3,h4,h5,h6⟩:=h.form
 exact⟨a,b,c,d,e,f,va,ia,ca,cb,cc,cd,ce,cf,cv,ci,hv,h1.below hb,h2.below hb,h3.below hb,h4.below hb,h5,h6⟩
structure StoreOk(s:Za):Prop where
 now:Zr s.now
 was:Zr s.was
 vs:∀v∈s.vs,v.ok
 vl:s.vs.length<=1048576
 xl:s.ix.length<=1048576
def inR(r:RelD)(nm:ByteArray):Bool:=(jeb r.zones (jc4 r.links nm)).isSome
theorem j1t{r:RelD}{nm:ByteArray}(h:relB r=true):inR r nm=decide (1<=(jat r nm).name.size):=by
 unfold inR
 cases hx:jeb r.zones (jc4 r.links nm)with
 |none=>rw[jgk hx];rfl
 |some i=>
  have hi:i<r.zones.length:=by unfold jeb at hx;exact(List.findIdx?_eq_some_iff_getElem.mp hx).1
  have hz:r.zones[i]? =some r.zones[i]:=List.getElem?_eq_getElem hi
  rw[jgj h hx hz]
  have:=(jl1 (jgn h (List.getElem_mem hi)).2).1
  simp;omega
def jw3(r:RelD):Bool:=decide (r.rules.length=0)&&(decide (r.zones.length=0)&&decide (r.links.length=0))
def j4d(s:Za)(nm:ByteArray):Bool:=inR s.now nm&&(decide (s.cur=0) || inR s.was nm)
theorem jff(r:RelD)(v:Value)(nm:ByteArray)(w:World)(hEnv:Zm w)(hv:Zi w v r)(ok:Zr r)(hr:relB r=true):
  Calls Tryz.prog 83 #[v,.string nm] w fun e w'=>e=.returned (.bool (inR r nm))/\Below w.heap.size w w':=by
 obtain⟨a,b,c,ca,cb,cc,hvv,_,_,_⟩:=hv.form
 have hB0:=qal w (.cells #[.slice a r.rules.length ca,.slice b r.zones.length cb,.slice c r.links.length cc] 56)
 have hZ:=fun w hE h=>jfg r v nm w hE h ok.ok ok.sm ok.on
 rw[j1t hr]
 have hv0:=hv.below hB0
 have hE0:=hEnv.of_below hB0
 generalize (jat r nm).name=zn at *
 subst hvv
 clear hv ok
 by_cases h1:1<=zn.size
 ·rw[decide_eq_true h1]
  have h2:¬zn.toList=[]:=fun h=>by rw[<- List.length_eq_zero_iff,jim]at h;omega
  have h3:zn.toList.isEmpty=false:=by simp[h2]
  go_enter Tryz.func83,Tryz.ntmps83
  go_wp2_with fail
  refine(hZ _ hE0 hv0).mono ?_
  rintro e w1 ⟨v',rfl,_,hb1⟩
  have hfd:∀w:World,(Instr.field 136 (.agg #[.string zn,v']) 0).run Tryz.prog w=.ok (.string zn) w:=fun _=>by kernel_rfl
  go_wp2
  go_ret
  exact⟨rfl,hB0.trans (hb1.mono (by simp))⟩
 ·rw[decide_eq_false h1]
  have h2:zn.toList=[]:=by rw[<- List.length_eq_zero_iff,jim];omega
  go_enter Tryz.func83,Tryz.ntmps83
  go_wp2_with fail
  refine(hZ _ hE0 hv0).mono ?_
  rintro e w1 ⟨v',rfl,_,hb1⟩
  have hfd:∀w:World,(Instr.field 136 (.agg #[.string zn,v']) 0).run Tryz.prog w=.ok (.string zn) w:=fun _=>by kernel_rfl
  go_wp2
  go_ret
  exact⟨rfl,hB0.trans (hb1.mono (by simp))⟩
end
section
open Go.RowKit
def frmB(s:Za):Bool:=decide (0<=s.tx)&&(decide (s.tx<=900000)&&(decide (0<=s.cur)&&(decide (s.cur<=1000001)&&(!decide (s.cur=0) || jw3 s.was))))
def jos(s:Za):Bool:=frmB s&&(relB s.now&&relB s.was)
theorem frm_1{s:Za}(h:s.tx<0):frmB s=false:=by unfold frmB;rw[decide_eq_false (by omega)];rfl
theorem frm_2{s:Za}(h:900000<s.tx):frmB s=false:=by unfold frmB;rw[decide_eq_false (p:=s.tx<=900000) (by omega)];simp
theorem frm_3{s:Za}(h:s.cur<0):frmB s=false:=by unfold frmB;rw[decide_eq_false (p:=0<=s.cur) (by omega)];simp
theorem frm_4{s:Za}(h:1000001<s.cur):frmB s=false:=by unfold frmB;rw[decide_eq_false (p:=s.cur<=1000001) (by omega)];simp
theorem frm_5{s:Za}(h:s.cur=0)(hn:jw3 s.was=false):frmB s=false:=by unfold frmB;rw[decide_eq_true h,hn];simp
theorem frm_6{s:Za}(h1:0<=s.tx)(h2:s.tx<=900000)(h3:0<=s.cur)(h4:s.cur<=1000001)(h5:s.cur=0->jw3 s.was=true):frmB s=true:=by
 unfold frmB
 rw[decide_eq_true h1,decide_eq_true h2,decide_eq_true h3,decide_eq_true h4]
 by_cases h:s.cur=0
 ·rw[h5 h];simp
 ·rw[decide_eq_false h];rfl
theorem jrr(r:RelD):jw3 r=decide (¬0<((r.rules.length:Int)+r.zones.length)+r.links.length):=by
 unfold jw3
 by_cases h:0<((r.rules.length:Int)+r.zones.length)+r.links.length
 ·rw[decide_eq_false (p:=¬_) (by simp[h])]
  by_cases h1:r.rules.length=0
  ·by_cases h2:r.zones.length=0
   ·rw[decide_eq_false (p:=r.links.length=0) (by omega)];simp
   ·rw[decide_eq_false h2];simp
  ·rw[decide_eq_false h1];rfl
 ·rw[decide_eq_true (p:=¬_) h,decide_eq_true (p:=r.rules.length=0) (by omega),decide_eq_true (p:=r.zones.length=0) (by omega),decide_eq_true (p:=r.links.length=0) (by omega)];rfl
theorem jjk(s:Za)(v:Value)(w:World)(hE:Zm w)(hv:StAt w v s)(ok:StoreOk s):
  Calls Tryz.prog 33 #[v] w fun e w'=>e=.returned (.bool (jos s))/\Below w.heap.size w w':=by
 obtain⟨a,b,c,d,e,f,va,ia,ca,cb,cc,cd,ce,cf,cv,ci,rfl,hN,hW,_,_,_,_⟩:=hv.form
 have hB0:=qal w (.cells #[.int .i64 s.tx,.slice a s.now.rules.length ca,.slice b s.now.zones.length cb,.slice c s.now.links.length cc,.slice d s.was.rules.length cd,.slice e s.was.zones.length ce,.slice f s.was.links.length cf,.int .i64 s.cur,.slice va s.vs.length cv,.slice ia s.ix.length ci] 60)
 have hF:=fun w hE h=>ja8 s.now (.agg #[.slice a s.now.rules.length ca,.slice b s.now.zones.length cb,.slice c s.now.links.length cc]) w hE h ok.now.ok ok.now.sm ok.now.on
 have hG:=fun w hE h=>ja8 s.was (.agg #[.slice d s.was.rules.length cd,.slice e s.was.zones.length ce,.slice f s.was.links.length cf]) w hE h ok.was.ok ok.was.sm ok.was.on
 obtain⟨m1,m2,m3,_⟩:=ok.was.sm
 have hN0:=hN.below hB0
 have hW0:=hW.below hB0
 have hE0:=hE.of_below hB0
 have H1:Hid (s.tx<0->frmB s=false):=frm_1
 have H2:Hid (900000<s.tx->frmB s=false):=frm_2
 have H3:Hid (s.cur<0->frmB s=false):=frm_3
 have H4:Hid (1000001<s.cur->frmB s=false):=frm_4
 have H5:Hid (s.cur=0->0<((s.was.rules.length:Int)+s.was.zones.length)+s.was.links.length->frmB s=false):=fun h h2=>frm_5 h (by rw[jrr];exact decide_eq_false (by omega))
 have H6:Hid (0<=s.tx->s.tx<=900000->0<=s.cur->s.cur<=1000001->(s.cur=0->¬0<((s.was.rules.length:Int)+s.was.zones.length)+s.was.links.length)->frmB s=true):=fun h1 h2 h3 h4 h5=>frm_6 h1 h2 h3 h4 fun h=>by rw[jrr];exact decide_eq_true (h5 h)
 unfold jos
 clear hv ok hN hW hE
 generalize frmB s=fb at *
 generalize relB s.now=nb at *
 generalize relB s.was=wb at *
 obtain⟨tx,now,was,cur,vs,ix⟩:=s
 dsimp only at *
 generalize was.rules.length=x at *
 generalize was.zones.length=y at *
 generalize was.links.length=z at *
 by_cases e1:tx<0
 ·obtain rfl:fb=false:=H1.out e1
  clear H1 H2 H3 H4 H5 H6
  go_enter Tryz.func33,Tryz.ntmps33
  go_wp2
  go_ret
  exact⟨rfl,hB0⟩
 by_cases e2:900000<tx
 ·obtain rfl:fb=false:=H2.out e2
  clear H1 H2 H3 H4 H5 H6
  go_enter Tryz.func33,Tryz.ntmps33
  go_wp2
  go_ret
  exact⟨rfl,hB0⟩
 by_cases e3:cur<0
 ·obtain rfl:fb=false:=H3.out e3
  clear H1 H2 H3 H4 H5 H6
  go_enter Tryz.func33,Tryz.ntmps33
  go_wp2
  go_ret
  exact⟨rfl,hB0⟩
 by_cases e4:1000001<cur
 ·obtain rfl:fb=false:=H4.out e4
  clear H1 H2 H3 H4 H5 H6
  go_enter Tryz.func33,Tryz.ntmps33
  go_wp2
  go_ret
  exact⟨rfl,hB0⟩
 by_cases e5:cur=0
 ·subst e5
  by_cases e6:0<((x:Int)+y)+z
  ·obtain rfl:fb=false:=H5.out rfl e6
   clear H1 H2 H3 H4 H5 H6
   go_enter Tryz.func33,Tryz.ntmps33
   go_wp2
   go_ret
   exact⟨rfl,hB0⟩
  obtain rfl:fb=true:=H6.out (by omega) (by omega) (by omega) (by omega) fun _=>e6
  clear H1 H2 H3 H4 H5 H6
  go_enter Tryz.func33,Tryz.ntmps33
  go_wp2_with fail
  refine(hF _ hE0 hN0).mono ?_
  rintro e' w1 ⟨rfl,hb1⟩
  have x4:w1.cell? ⟨w.heap.size,4,none⟩=some (.slice d x cd):=jab hb1 (by simp[go_sem])
  have x5:w1.cell? ⟨w.heap.size,5,none⟩=some (.slice e y ce):=jab hb1 (by simp[go_sem])
  have x6:w1.cell? ⟨w.heap.size,6,none⟩=some (.slice f z cf):=jab hb1 (by simp[go_sem])
  have hW1:=hW0.below hb1
  have hE1:=hE0.of_below hb1
  have hB1:=hB0.trans (hb1.mono (by simp))
  clear hB0 hb1 hW0 hN0 hE0
  cases nb
  ·go_wp2
   go_ret
   exact⟨rfl,hB1⟩
  go_wp2_with fail
  refine(hG _ hE1 hW1).mono ?_
  rintro e' w2 ⟨rfl,hb2⟩
  have hB2:=qtr hB1 hb2
  go_wp2
  go_ret
  exact⟨ret_bool (by simp),hB2⟩
 ·have e7:(cur==0)=false:=by simp[e5]
  obtain rfl:fb=true:=H6.out (by omega) (by omega) (by omega) (by omega) fun h=>absurd h e5
  clear H1 H2 H3 H4 H5 H6
  go_enter Tryz.func33,Tryz.ntmps33
  go_wp2_with fail
  refine(hF _ hE0 hN0).mono ?_
  rintro e' w1 ⟨rfl,hb1⟩
  have x4:w1.cell? ⟨w.heap.size,4,none⟩=some (.slice d x cd):=jab hb1 (by simp[go_sem])
  have x5:w1.cell? ⟨w.heap.size,5,none⟩=some (.slice e y ce):=jab hb1 (by simp[go_sem])
  have x6:w1.cell? ⟨w.heap.size,6,none⟩=some (.slice f z cf):=jab hb1 (by simp[go_sem])
  have hW1:=hW0.below hb1
  have hE1:=hE0.of_below hb1
  have hB1:=hB0.trans (hb1.mono (by simp))
  clear hB0 hb1 hW0 hN0 hE0
  cases nb
  ·go_wp2
   go_ret
   exact⟨rfl,hB1⟩
  go_wp2_with fail
  refine(hG _ hE1 hW1).mono ?_
  rintro e' w2 ⟨rfl,hb2⟩
  have hB2:=qtr hB1 hb2
  go_wp2
  go_ret
  exact⟨ret_bool (by simp),hB2⟩
end
section
open Go.RowKit
def cmpI(x y:Int):Int:=if x<y then -1 else if y<x then 1 else 0
theorem jo5(x:Int)(w:World):Calls Tryz.prog 129 #[.int .i64 x] w fun e w'=>e=.returned (.bool false)/\w'=w:=by
 go_enter Tryz.func129,Tryz.ntmps129
 go_wp2
 go_ret
 exact⟨by simp,rfl⟩
theorem jj3(x y:Int)(w:World):Calls Tryz.prog 91 #[.int .i64 x,.int .i64 y] w fun e w'=>e=.returned (.int .i64 (cmpI x y))/\w'=w:=by
 have h1:=jo5 x w
 have h2:=jo5 y w
 by_cases e1:x<y
 ·have HR:Hid (cmpI x y= -1):=by simp only[Hid,cmpI];rw[if_pos e1]
  go_enter Tryz.func91,Tryz.ntmps91
  go_wp2_with fail
  refine h1.mono ?_
  rintro e w1 ⟨rfl,rfl⟩
  go_wp2_with fail
  refine h2.mono ?_
  rintro e w1 ⟨rfl,rfl⟩
  go_wp2
  go_ret
  exact⟨by rw[HR.out];rfl,rfl⟩
 ·by_cases e2:y<x
  ·have HR:Hid (cmpI x y=1):=by simp only[Hid,cmpI];rw[if_neg e1,if_pos e2]
   go_enter Tryz.func91,Tryz.ntmps91
   go_wp2_with fail
   refine h1.mono ?_
   rintro e w1 ⟨rfl,rfl⟩
   go_wp2_with fail
   refine h2.mono ?_
   rintro e w1 ⟨rfl,rfl⟩
   go_wp2
   go_ret
   exact⟨by rw[HR.out];rfl,rfl⟩
  ·have HR:Hid (cmpI x y=0):=by simp only[Hid,cmpI];rw[if_neg e1,if_neg e2]
   go_enter Tryz.func91,Tryz.ntmps91
   go_wp2_with fail
   refine h1.mono ?_
   rintro e w1 ⟨rfl,rfl⟩
   go_wp2_with fail
   refine h2.mono ?_
   rintro e w1 ⟨rfl,rfl⟩
   go_wp2
   go_ret
   exact⟨by rw[HR.out];rfl,rfl⟩
def orI(x y:Int):Int:=if x=0 then y else x
theorem j60(g:Nat)(x y:Int)(w:World)(c0:w.cell? ⟨g,0,none⟩=some (.int .i64 x))(c1:w.cell? ⟨g,1,none⟩=some (.int .i64 y)):Calls Tryz.prog 90 #[.slice (some ⟨g,0,none⟩) 2 2] w fun e w'=>e=.returned (.int .i64 (orI x y))/\w'=w:=by
 go_enter Tryz.func90,Tryz.ntmps90
 go_wp2
 refine wp_loop_rounds 3 ?_
 rw[rounds_succ]
 by_cases e1:x=0
 ·subst e1
  by_cases e2:y=0
  ·subst e2
   go_wp2
   rw[rounds_succ]
   go_wp2
   rw[rounds_succ]
   go_wp2
   go_ret
   exact⟨rfl,rfl⟩
  ·have e3:(y==0)=false:=by simp[e2]
   go_wp2
   rw[rounds_succ]
   go_wp2
   go_ret
   exact⟨rfl,rfl⟩
 ·have e3:(x==0)=false:=by simp[e1]
  have HR:Hid (orI x y=x):=by simp only[Hid,orI];rw[if_neg e1]
  go_wp2
  go_ret
  exact⟨by rw[HR.out];rfl,rfl⟩
end
section
open Go.RowKit
theorem jqm(w:World)(a b o:Obj):((w.alloc a).alloc b).drew.alloc o=Go.Sort.grow (w.drewN 1) #[a,b,o]:=by
 rw[Go.Sort.alloc_eq_grow,Go.Sort.alloc_eq_grow,Go.Sort.alloc_eq_grow,Go.Sort.drew_grow,Go.Sort.drew_grow,Go.Sort.grow_grow,Go.Sort.grow_grow]
 rfl
theorem jq1(x y:EntryD)(w:World):Calls Tryz.prog 89 #[x.v,y.v] w fun e w'=>e=.returned (.int .i64 (orI (cmpI x.at_ y.at_) (cmpI x.id y.id)))/\∃n os,w'=Go.Sort.grow (w.drewN n) os:=by
 obtain⟨xa,xi⟩:=x
 obtain⟨ya,yi⟩:=y
 simp only[EntryD.v]
 have h1:=fun x y w=>jj3 x y w
 obtain⟨x0,x1,y0,y1⟩:(fun z:World=>z.cell? ⟨w.heap.size,0,none⟩=some (.int .i64 xa)/\z.cell? ⟨w.heap.size,1,none⟩=some (.int .i64 xi)/\z.cell? ⟨w.heap.size+1,0,none⟩=some (.int .i64 ya)/\z.cell? ⟨w.heap.size+1,1,none⟩=some (.int .i64 yi)) ((w.alloc (.cells #[.int .i64 xa,.int .i64 xi] 108)).alloc (.cells #[.int .i64 ya,.int .i64 yi] 108)):=by simp[go_sem]
 have HW:Hid (∀o,∃os,((w.alloc (.cells #[.int .i64 xa,.int .i64 xi] 108)).alloc (.cells #[.int .i64 ya,.int .i64 yi] 108)).drew.alloc o=Go.Sort.grow (w.drewN 1) os):=fun o=>⟨#[.cells #[.int .i64 xa,.int .i64 xi] 108,.cells #[.int .i64 ya,.int .i64 yi] 108,o],jqm w _ _ o⟩
 go_enter Tryz.func89,Tryz.ntmps89
 go_wp2_with fail
 generalize ((w.alloc (.cells #[.int .i64 xa,.int .i64 xi] 108)).alloc (.cells #[.int .i64 ya,.int .i64 yi] 108))=wA at *
 have xD0:wA.drew.cell? ⟨w.heap.size,0,none⟩=some (.int .i64 xa):=x0
 have xD1:wA.drew.cell? ⟨w.heap.size,1,none⟩=some (.int .i64 xi):=x1
 have yD0:wA.drew.cell? ⟨w.heap.size+1,0,none⟩=some (.int .i64 ya):=y0
 have yD1:wA.drew.cell? ⟨w.heap.size+1,1,none⟩=some (.int .i64 yi):=y1
 have bA:=qal wA (.cells #[.int .i64 (cmpI xa ya),.int .i64 (cmpI xi yi)] 3)
 have xE0:(wA.alloc (.cells #[.int .i64 (cmpI xa ya),.int .i64 (cmpI xi yi)] 3)).drew.cell? ⟨w.heap.size,0,none⟩=some (.int .i64 xa):=jab bA x0
 have xE1:(wA.alloc (.cells #[.int .i64 (cmpI xa ya),.int .i64 (cmpI xi yi)] 3)).drew.cell? ⟨w.heap.size,1,none⟩=some (.int .i64 xi):=jab bA x1
 have yE0:(wA.alloc (.cells #[.int .i64 (cmpI xa ya),.int .i64 (cmpI xi yi)] 3)).drew.cell? ⟨w.heap.size+1,0,none⟩=some (.int .i64 ya):=jab bA y0
 have yE1:(wA.alloc (.cells #[.int .i64 (cmpI xa ya),.int .i64 (cmpI xi yi)] 3)).drew.cell? ⟨w.heap.size+1,1,none⟩=some (.int .i64 yi):=jab bA y1
 have h2:=j60 wA.heap.size (cmpI xa ya) (cmpI xi yi) (wA.alloc (.cells #[.int .i64 (cmpI xa ya),.int .i64 (cmpI xi yi)] 3)).drew (by simp[go_sem]) (by simp[go_sem])
 clear bA
 clear x0 x1 y0 y1
 go_region_held3 (fun w'=>w'.cell? ⟨w.heap.size,0,none⟩=some (.int .i64 xa)/\w'.cell? ⟨w.heap.size,1,none⟩=some (.int .i64 xi)/\w'.cell? ⟨w.heap.size+1,0,none⟩=some (.int .i64 ya)/\w'.cell? ⟨w.heap.size+1,1,none⟩=some (.int .i64 yi)) (go_keep) (first|(go_at_call 91;refine(h1 _ _ _).mono ?_;rintro e w3 ⟨rfl,rfl⟩)|(go_at_call 90;refine h2.mono ?_;rintro e w4 ⟨rfl,rfl⟩)|go_in)
 go_wp2
 go_ret
 obtain⟨os,ho⟩:=HW.out (.cells #[.int .i64 (cmpI xa ya),.int .i64 (cmpI xi yi)] 3)
 exact⟨rfl,1,os,ho⟩
end
section
open Go.RowKit
def eqX(a b:List EntryD):Bool:=(a.map fun x=>(x.at_,x.id))==(b.map fun x=>(x.at_,x.id))
theorem eqX_iff{a b:List EntryD}:eqX a b=true↔a=b:=by
 unfold eqX
 rw[beq_iff_eq]
 constructor
 ·intro h
  refine List.map_inj_right (f:=fun x:EntryD=>(x.at_,x.id)) (fun x y h=>?_) |>.mp h
  cases x;cases y;simp only[Prod.mk.injEq]at h;obtain⟨rfl,rfl⟩:=h;rfl
 ·intro h;rw[h]
theorem jyv{a b:List EntryD}(h:a≠b):eqX a b=false:=by
 cases hb:eqX a b
 ·rfl
 ·exact absurd (eqX_iff.mp hb) h
theorem jho(l m:List EntryD)(a b:Option Addr)(n k ca cb:Nat)(w:World)(hA:Zd w a 2 (l.map EntryD.cs))(hB:Zd w b 2 (m.map EntryD.cs))(hn:l.length=n)(hk:m.length=k)(hl:n<=1048576)(hkl:k<=1048576):
  Calls Tryz.prog 39 #[.slice a n ca,.slice b k cb] w fun e w'=>e=.returned (.bool (eqX l m))/\Below w.heap.size w w':=by
 by_cases hnk:n=k
 ·subst hnk
  have HE:Hid (l.length=n/\m.length=n):=⟨hn,hk⟩
  obtain⟨z,hz⟩:∃z,eqX l m=z:=⟨_,rfl⟩
  have HZ:=hid hz
  rw[hz]
  clear hz hn hk
  go_enter Tryz.func39,Tryz.ntmps39
  go_wp2
  go_loopw [13] (fun s wr=>∃i:Nat,i<=n/\s=.int .i64 i/\Hid (∀j,j<i->l[j]? =m[j]?)/\Below w.heap.size w wr) (fun s _=>n-(intOf s).toNat)
  case atStart=>exact⟨0,by omega,rfl,fun j hj=>by omega,Below.refl _ _⟩
  case round=>
   obtain⟨wa,hwa⟩:∃x:World,x=wr:=⟨_,rfl⟩
   subst hwa
   obtain⟨i,hin,rfl,HK,hBr⟩:=hrel
   by_cases hlt:i<n
   ·have a1:(i:Int)<(n:Int):=by omega
    obtain⟨x,hx⟩:∃v,l[i]? =some v:=⟨_,List.getElem?_eq_getElem (by have:=HE.out.1;omega)⟩
    obtain⟨y,hy⟩:∃v,m[i]? =some v:=⟨_,List.getElem?_eq_getElem (by have:=HE.out.2;omega)⟩
    obtain⟨p,o,rfl,hc⟩:=(hA.below hBr).at (i:=i) (r:=x.cs) (by rw[List.getElem?_map,hx];rfl)
    obtain⟨p2,o2,rfl,hd⟩:=(hB.below hBr).at (i:=i) (r:=y.cs) (by rw[List.getElem?_map,hy];rfl)
    have c0:wa.cell? ⟨p,o+i*2,none⟩=some (.int .i64 x.at_):=hc 0 _ rfl
    have c1:wa.cell? ⟨p,o+i*2+1,none⟩=some (.int .i64 x.id):=hc 1 _ rfl
    have d0:wa.cell? ⟨p2,o2+i*2,none⟩=some (.int .i64 y.at_):=hd 0 _ rfl
    have d1:wa.cell? ⟨p2,o2+i*2+1,none⟩=some (.int .i64 y.id):=hd 1 _ rfl
    have HX:Hid (l[i]? =some x/\m[i]? =some y):=⟨hx,hy⟩
    clear hc hd hx hy
    obtain⟨xa,xi⟩:=x
    obtain⟨ya,yi⟩:=y
    dsimp only at *
    by_cases e1:xa=ya
    ·subst e1
     by_cases e2:xi=yi
     ·subst e2
      have HR:Hid (∀j,j<i+1->l[j]? =m[j]?):=fun j hj=>by
       by_cases e:j=i
       ·subst e;rw[HX.out.1,HX.out.2]
       ·exact HK.out j (by omega)
      clear HX HK
      go_wp2_with fail
      go_quiet (fail)
      go_wp2
      go_roundw
      case rel=>exact⟨i+1,by omega,by go_num,HR,below_drewN hBr _⟩
      case measure=>simp[intOf];omega
     ·obtain rfl:z=false:=by
       rw[<- HZ.out]
       refine jyv fun h=>?_
       have h1:=HX.out.1;rw[h,HX.out.2]at h1
       injection h1 with h1;injection h1 with _ h1;exact e2 h1.symm
      clear HX HK
      go_wp2_with fail
      go_quiet (fail)
      go_wp2
      go_ret
      exact⟨rfl,below_drewN hBr _⟩
    ·obtain rfl:z=false:=by
      rw[<- HZ.out]
      refine jyv fun h=>?_
      have h1:=HX.out.1;rw[h,HX.out.2]at h1
      injection h1 with h1;injection h1 with h1 _;exact e1 h1.symm
     clear HX HK
     go_wp2_with fail
     go_quiet (fail)
     go_wp2
     go_ret
     exact⟨rfl,below_drewN hBr _⟩
   ·obtain rfl:i=n:=by omega
    obtain rfl:z=true:=by
     rw[<- HZ.out,eqX_iff]
     refine List.ext_getElem? fun j=>?_
     by_cases hj:j<i
     ·exact HK.out j hj
     ·rw[List.getElem?_eq_none (by rw[HE.out.1];omega),List.getElem?_eq_none (by rw[HE.out.2];omega)]
    go_wp2
    go_ret
    exact⟨rfl,hBr⟩
 ·have h1:¬(n:Int)=(k:Int):=by omega
  rw[jyv (fun h=>hnk (by rw[<- hn, <- hk,h]))]
  go_enter Tryz.func39,Tryz.ntmps39
  go_wp2
  go_ret
  exact⟨rfl,Below.refl _ _⟩
end
section
open Go.RowKit Go.Lib
abbrev CloneP(w:World)(t:TypeId)(q n:Nat)(l:List Value)(e:Ending)(w':World):Prop:=∃v',e=.returned v'/\w'.ownsRow w.heap.size t q v' n l/\Below w.heap.size w w'
theorem jdw {F:FuncId} {t:TypeId} {q n c:Nat} {rows:List (List Value)} {a:Option Addr} {w:World} (hq:∀r∈rows,r.length=q) (h1:∀u∈rows.flatten,u.oneCell'=true) (hA:Zd w a q rows) (hn:rows.length=n)
  (hm:∀(s:Addr) (l:List Value),Hid (∀j u,l[j]? =some u->w.cell? (s.add j)=some u)->Hid (l.length=n*q)->Hid (∀u∈l,u.oneCell'=true)->Calls Tryz.prog F #[.slice (some s) n c] w (CloneP w t q n l)) (h0:Calls Tryz.prog F #[.slice none 0 c] w (CloneP w t q 0 [])):Calls Tryz.prog F #[.slice a n c] w (CloneP w t q n rows.flatten):=by
 have hL:rows.flatten.length=n*q:=by rw[jga hq,hn]
 rcases hA with e|⟨b,ob,rfl,hc⟩
 ·subst e
  obtain rfl:n=0:=by rw[<- hn];rfl
  cases a with
  |none=>exact h0
  |some b0=>exact hm b0 _ (fun j u hj=>by simp at hj) hL h1
 ·exact hm _ _ (Zd.flat (.inr ⟨b,ob,rfl,hc⟩) hq) hL h1
theorem jdv{w w1:World}{t:TypeId}{q n:Nat}{l:List Value}{v:Value}(ho:w1.ownsRow w.heap.size t q v n l)(hg:(w.alloc (.cells #[] t)).grownBy w1 (Value.slice (some ⟨w.heap.size,0,none⟩) 0 0).ownBlock):w1.ownsRow w.heap.size t q v n l/\Below w.heap.size w w1:=⟨ho,(qal w _).grown hg (by simp) (by intro k hk;simp[Value.ownBlock]at hk;omega)⟩
theorem jmt(rows:List (List Value))(hq:∀r∈rows,r.length=8)(h1:∀u∈rows.flatten,u.oneCell'=true)(a:Option Addr)(n c:Nat)(w:World)(hA:Zd w a 8 rows)(hn:rows.length=n)(hl:n<=1048576):Calls Tryz.prog 55 #[.slice a n c] w (CloneP w 101 8 n rows.flatten):=by
 obtain⟨i0,hi,hz0,hz1,hz2⟩:=ji0
 have q22:=fun(w:World) (a:Option Addr) (n c n' c':Nat)=>Lib.run_eql_slice_nil w 57 _ a n c n' c' Tryz.underlying57
 refine jdw hq h1 hA hn (fun s l HC HL H1=>?_) ?_
 ·clear h1 hq hn hA
  go_enter Tryz.func55,Tryz.ntmps55
  go_wp2_with (at_builtin;refine wpList_append_own _ rfl _ _ 57 rfl w.heap.size 101 i0 (.agg #[.int .i64 0,.bool false,.int .i64 0,.string ⟨#[]⟩,.string ⟨#[]⟩,.int .i64 0,.int .i64 0,.int .i64 0]) 8 80 Tryz.underlying57 hi hz0 hz1 hz2 rfl (by decide) _ _ _ rfl (World.ownsRow_made w #[] 0 (Nat.le_refl _) (Nat.zero_le _) (by simp)) s n c l rfl HL.out ?qc2 H1.out ?qc4 ?qc5 ?qc6 ?_)
  case qc2=>intro j u hj;exact Lib.cell?_alloc_some _ (HC.out j u hj)
  case qc4=>unfold maxLen;omega
  case qc5=>omega
  case qc6=>simp
  intro v' w1 hown hgrow _
  go_wp2
  go_ret
  exact⟨v',rfl,jdv hown hgrow⟩
 ·go_enter Tryz.func55,Tryz.ntmps55
  go_wp2
  go_ret
  exact⟨_,rfl,World.ownsRow_nil _ _ _ _,Below.refl _ _⟩
theorem jq4(rows:List (List Value))(hq:∀r∈rows,r.length=2)(h1:∀u∈rows.flatten,u.oneCell'=true)(a:Option Addr)(n c:Nat)(w:World)(hA:Zd w a 2 rows)(hn:rows.length=n)(hl:n<=1048576):Calls Tryz.prog 56 #[.slice a n c] w (CloneP w 108 2 n rows.flatten):=by
 obtain⟨i0,hi,hz0,hz1,hz2⟩:=jnw
 have q22:=fun(w:World) (a:Option Addr) (n c n' c':Nat)=>Lib.run_eql_slice_nil w 58 _ a n c n' c' Tryz.underlying58
 refine jdw hq h1 hA hn (fun s l HC HL H1=>?_) ?_
 ·clear h1 hq hn hA
  go_enter Tryz.func56,Tryz.ntmps56
  go_wp2_with (at_builtin;refine wpList_append_own _ rfl _ _ 58 rfl w.heap.size 108 i0 (.agg #[.int .i64 0,.int .i64 0]) 2 16 Tryz.underlying58 hi hz0 hz1 hz2 rfl (by decide) _ _ _ rfl (World.ownsRow_made w #[] 0 (Nat.le_refl _) (Nat.zero_le _) (by simp)) s n c l rfl HL.out ?qc2 H1.out ?qc4 ?qc5 ?qc6 ?_)
  case qc2=>intro j u hj;exact Lib.cell?_alloc_some _ (HC.out j u hj)
  case qc4=>unfold maxLen;omega
  case qc5=>omega
  case qc6=>simp
  intro v' w1 hown hgrow _
  go_wp2
  go_ret
  exact⟨v',rfl,jdv hown hgrow⟩
 ·go_enter Tryz.func56,Tryz.ntmps56
  go_wp2
  go_ret
  exact⟨_,rfl,World.ownsRow_nil _ _ _ _,Below.refl _ _⟩
theorem juu(rows:List (List Value))(hq:∀r∈rows,r.length=9)(h1:∀u∈rows.flatten,u.oneCell'=true)(a:Option Addr)(n c:Nat)(w:World)(hA:Zd w a 9 rows)(hn:rows.length=n)(hl:n<=1048576):Calls Tryz.prog 86 #[.slice a n c] w (CloneP w 131 9 n rows.flatten):=by
 obtain⟨i0,hi,hz0,hz1,hz2⟩:=jsb
 have q22:=fun(w:World) (a:Option Addr) (n c n' c':Nat)=>Lib.run_eql_slice_nil w 52 _ a n c n' c' Tryz.underlying52
 refine jdw hq h1 hA hn (fun s l HC HL H1=>?_) ?_
 ·clear h1 hq hn hA
  go_enter Tryz.func86,Tryz.ntmps86
  go_wp2_with (at_builtin;refine wpList_append_own _ rfl _ _ 52 rfl w.heap.size 131 i0 (.agg #[.string ⟨#[]⟩,.int .i64 0,.int .i64 0,.int .i64 0,.string ⟨#[]⟩,.int .i64 0,.string ⟨#[]⟩,.int .i64 0,.string ⟨#[]⟩]) 9 104 Tryz.underlying52 hi hz0 hz1 hz2 rfl (by decide) _ _ _ rfl (World.ownsRow_made w #[] 0 (Nat.le_refl _) (Nat.zero_le _) (by simp)) s n c l rfl HL.out ?qc2 H1.out ?qc4 ?qc5 ?qc6 ?_)
  case qc2=>intro j u hj;exact Lib.cell?_alloc_some _ (HC.out j u hj)
  case qc4=>unfold maxLen;omega
  case qc5=>omega
  case qc6=>simp
  intro v' w1 hown hgrow _
  go_wp2
  go_ret
  exact⟨v',rfl,jdv hown hgrow⟩
 ·go_enter Tryz.func86,Tryz.ntmps86
  go_wp2
  go_ret
  exact⟨_,rfl,World.ownsRow_nil _ _ _ _,Below.refl _ _⟩
theorem juv(rows:List (List Value))(hq:∀r∈rows,r.length=2)(h1:∀u∈rows.flatten,u.oneCell'=true)(a:Option Addr)(n c:Nat)(w:World)(hA:Zd w a 2 rows)(hn:rows.length=n)(hl:n<=1048576):Calls Tryz.prog 87 #[.slice a n c] w (CloneP w 140 2 n rows.flatten):=by
 obtain⟨i0,hi,hz0,hz1,hz2⟩:=j1p
 have q22:=fun(w:World) (a:Option Addr) (n c n' c':Nat)=>Lib.run_eql_slice_nil w 54 _ a n c n' c' Tryz.underlying54
 refine jdw hq h1 hA hn (fun s l HC HL H1=>?_) ?_
 ·clear h1 hq hn hA
  go_enter Tryz.func87,Tryz.ntmps87
  go_wp2_with (at_builtin;refine wpList_append_own _ rfl _ _ 54 rfl w.heap.size 140 i0 (.agg #[.string ⟨#[]⟩,.string ⟨#[]⟩]) 2 32 Tryz.underlying54 hi hz0 hz1 hz2 rfl (by decide) _ _ _ rfl (World.ownsRow_made w #[] 0 (Nat.le_refl _) (Nat.zero_le _) (by simp)) s n c l rfl HL.out ?qc2 H1.out ?qc4 ?qc5 ?qc6 ?_)
  case qc2=>intro j u hj;exact Lib.cell?_alloc_some _ (HC.out j u hj)
  case qc4=>unfold maxLen;omega
  case qc5=>omega
  case qc6=>simp
  intro v' w1 hown hgrow _
  go_wp2
  go_ret
  exact⟨v',rfl,jdv hown hgrow⟩
 ·go_enter Tryz.func87,Tryz.ntmps87
  go_wp2
  go_ret
  exact⟨_,rfl,World.ownsRow_nil _ _ _ _,Below.refl _ _⟩
theorem jut(rows:List (List Value))(hq:∀r∈rows,r.length=2)(h1:∀u∈rows.flatten,u.oneCell'=true)(a:Option Addr)(n c:Nat)(w:World)(hA:Zd w a 2 rows)(hn:rows.length=n)(hl:n<=1048576):Calls Tryz.prog 84 #[.slice a n c] w (CloneP w 136 2 n rows.flatten):=by
 obtain⟨i0,hi,hz0,hz1,hz2⟩:=jsa
 have q22:=fun(w:World) (a:Option Addr) (n c n' c':Nat)=>Lib.run_eql_slice_nil w 53 _ a n c n' c' Tryz.underlying53
 refine jdw hq h1 hA hn (fun s l HC HL H1=>?_) ?_
 ·clear h1 hq hn hA
  go_enter Tryz.func84,Tryz.ntmps84
  go_wp2_with (at_builtin;refine wpList_append_own _ rfl _ _ 53 rfl w.heap.size 136 i0 (.agg #[.string ⟨#[]⟩,.slice none 0 0]) 2 40 Tryz.underlying53 hi hz0 hz1 hz2 rfl (by decide) _ _ _ rfl (World.ownsRow_made w #[] 0 (Nat.le_refl _) (Nat.zero_le _) (by simp)) s n c l rfl HL.out ?qc2 H1.out ?qc4 ?qc5 ?qc6 ?_)
  case qc2=>intro j u hj;exact Lib.cell?_alloc_some _ (HC.out j u hj)
  case qc4=>unfold maxLen;omega
  case qc5=>omega
  case qc6=>simp
  intro v' w1 hown hgrow _
  go_wp2
  go_ret
  exact⟨v',rfl,jdv hown hgrow⟩
 ·go_enter Tryz.func84,Tryz.ntmps84
  go_wp2
  go_ret
  exact⟨_,rfl,World.ownsRow_nil _ _ _ _,Below.refl _ _⟩
theorem jza(rows:List (List Value))(hq:∀r∈rows,r.length=6)(h1:∀u∈rows.flatten,u.oneCell'=true)(a:Option Addr)(n c:Nat)(w:World)(hA:Zd w a 6 rows)(hn:rows.length=n)(hl:n<=1048576):Calls Tryz.prog 85 #[.slice a n c] w (CloneP w 148 6 n rows.flatten):=by
 obtain⟨i0,hi,hz0,hz1,hz2⟩:=jp4
 have q22:=fun(w:World) (a:Option Addr) (n c n' c':Nat)=>Lib.run_eql_slice_nil w 134 _ a n c n' c' Tryz.underlying134
 refine jdw hq h1 hA hn (fun s l HC HL H1=>?_) ?_
 ·clear h1 hq hn hA
  go_enter Tryz.func85,Tryz.ntmps85
  go_wp2_with (at_builtin;refine wpList_append_own _ rfl _ _ 134 rfl w.heap.size 148 i0 (.agg #[.int .i64 0,.string ⟨#[]⟩,.int .i64 0,.string ⟨#[]⟩,.int .i64 0,.string ⟨#[]⟩]) 6 72 Tryz.underlying134 hi hz0 hz1 hz2 rfl (by decide) _ _ _ rfl (World.ownsRow_made w #[] 0 (Nat.le_refl _) (Nat.zero_le _) (by simp)) s n c l rfl HL.out ?qc2 H1.out ?qc4 ?qc5 ?qc6 ?_)
  case qc2=>intro j u hj;exact Lib.cell?_alloc_some _ (HC.out j u hj)
  case qc4=>unfold maxLen;omega
  case qc5=>omega
  case qc6=>simp
  intro v' w1 hown hgrow _
  go_wp2
  go_ret
  exact⟨v',rfl,jdv hown hgrow⟩
 ·go_enter Tryz.func85,Tryz.ntmps85
  go_wp2
  go_ret
  exact⟨_,rfl,World.ownsRow_nil _ _ _ _,Below.refl _ _⟩
end
end Go.Proofs.YtofdpfpdocpbpaaGreatDoor
