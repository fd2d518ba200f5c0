/- Packed. -/
import Derived.Test.YtknlhkipdfkddaaGreatDoorDTd
set_option maxHeartbeats 20000000
set_option linter.unusedSimpArgs false
namespace Go.Proofs.YtknlhkipdfkddaaGreatDoor
section
open Go.RowKit
theorem Jb.seq{w:World}{base:Nat}{v:Value}{P:List EventD}(h:Jb w base v P):∃a cap,v=.slice a P.length cap/\Za w a 6 (P.map EventD.cs):=by
 obtain⟨a,cap,h1,h2,h3⟩:=jbe (rows:=P.map EventD.cs) (by rw[llm];exact h) jbl
 rw[llm]at h1 h3
 exact⟨a,cap,h1,h2⟩
end
section
open Go.RowKit Go.Lib Go.Sort
theorem stat_zero(w:World):Jd w (.agg (stA zeroS none none none none none none none none 0 0 0 0 0 0 0 0).toArray) zeroS:=(StC.nil w 0 0 (nlr _)).st
end
section
open Go.RowKit
structure RightS(s:StoreD):Prop where
 now:relB s.now=true
 was:relB s.was=true
 vl:s.vs.length<=60
 tx:0<=s.tx/\s.tx<=900000
 ver:verB s.vs s.tx=true
 ll:(jan s.vs).length<=30
 zone:∀x∈jan s.vs,jdv s x.zone=true
theorem rightS{s:StoreD}(h:storeS s=true):RightS s:=by
 have hp:=store_parts (jkt s ▸ h)
 unfold storeS at h
 simp only[bat,List.all_eq_true]at h
 exact⟨h.1,h.2.1,hp.1,hp.2.1,h.2.2.2.1,hp.2.2.2,h.2.2.2.2.2.2.2.1⟩
theorem RightS.ev{s:StoreD}(h:RightS s){e:EventD}(he:e∈jan s.vs):EvR e:=by
 obtain⟨v,hm,rfl⟩:=jl5 he
 exact jhs (jfk h.ver v hm)
theorem live_id{l:List VersionD}{id:Int}{e:EventD}(h:jch l id=some e):e.id=id:=by
 unfold jch at h
 cases hk:jci l id with
 |none=>rw[hk]at h;cases h
 |some k=>
  obtain⟨_,⟨v,hv,hi⟩,_⟩:=jdc hk
  rw[hk]at h
  simp only[hv]at h
  split at h
  ·cases h
  ·cases h;exact hi
theorem has_none{l:List VersionD}{id:Int}(h:jch l id=none):hasN (jan l) id=none:=by
 unfold hasN
 rw[List.findIdx?_eq_none_iff]
 intro x hx
 refine dfe fun hc=>?_
 have:=liveL_mem.mp hx
 rw[hc,h]at this
 cases this
theorem has_some{l:List VersionD}{id:Int}{e:EventD}(h:jch l id=some e):∃k,hasN (jan l) id=some k/\(jan l)[k]? =some e:=by
 have hid:=live_id h
 have hm:e∈jan l:=liveL_mem.mpr (by rw[hid];exact h)
 cases hk:hasN (jan l) id with
 |none=>
  unfold hasN at hk
  rw[List.findIdx?_eq_none_iff]at hk
  have:=hk e hm
  simp[hid]at this
 |some k=>
  unfold hasN at hk
  obtain⟨hl,hx,_⟩:=List.findIdx?_eq_some_iff_getElem.mp hk
  have hx:=odt hx
  have h2:=liveL_mem.mp (List.getElem_mem hl)
  rw[hx,h]at h2
  cases h2
  exact⟨k,rfl,lgg hl⟩
end
section
open Go.RowKit
theorem rel0_ok:Jk ⟨[],[],[]⟩:=⟨⟨⟨Nat.zero_le _,fun x hx=>by simp at hx⟩,⟨Nat.zero_le _,fun x hx=>by simp at hx⟩,⟨Nat.zero_le _,fun x hx=>by simp at hx⟩⟩,⟨Nat.zero_le _,Nat.zero_le _,Nat.zero_le _,fun x hx=>by simp at hx⟩,fun x hx=>by simp at hx⟩
theorem zero_ok:Zr zeroS:=⟨rel0_ok,rel0_ok,fun x hx=>by simp[zeroS]at hx,Nat.zero_le _,Nat.zero_le _⟩
end
section
open Go.RowKit Go.Lib Go.Sort
def putM(s:StoreD)(e:EventD):StoreD × Int:=if storeS s=true then(if jbm e=true then(if jdv s e.zone=true then(if 60<=s.vs.length\/900000<=s.tx\/(30<=(jan s.vs).length/\hasN (jan s.vs) e.id=none)then(zeroS,7)else(addM s e false,0))else(zeroS,5))else(zeroS,1))else(zeroS,1)
set_option maxRecDepth 20000 in
theorem spec_Put(s:StoreD)(v:Value)(ev:EventD)(B:Nat)(w:World)(hv:OwnSt w B v s)(ok:Zr s)(m1:ev.name.size<=maxLen)(m2:ev.zone.size<=maxLen)(hE:storeS s=true->relB s.now=true/\relB s.was=true/\s.vs.length<=60/\(0<=s.tx/\s.tx<=900000)/\(jan s.vs).length<=30)(nV:storeS s=true->jbm ev=true->(verOf (s.tx+1) false ev).ok/\∀x∈jan (s.vs++[verOf (s.tx+1) false ev]),EvR x):
  Cl 6 #[v,ev.v] w (OutM (putM s ev).1 0 (putM s ev).2 w):=by
 have dQ:=hv
 obtain⟨a,b,c,d,e,f,va,ia,rfl,_,_,⟨_,hV,_⟩,_,_⟩:=hv.form
 obtain⟨id,name,zone,wall,gap,fold⟩:=ev
 obtain⟨w0,KR,ag,A0,E0,R0,_⟩:=three_out w (stO s a b c d e f va ia) [iv id,.string name,.string zone,iv wall,iv gap,iv fold]
 have q1:=jh8 s _ _ (dQ.below ag).st ok
 have q2:=fun W=>jlo ⟨id,name,zone,wall,gap,fold⟩ W m1 m2
 simp only[EventD.v]at *
 obtain⟨x0,x1,x2,x3,x4,x5,x6,x7,x8,x9⟩:=A0.ten
 go_enter Tryz.func6,Tryz.ntmps6
 go_wp2_with fail
 clear KR
 refine q1.mono ?_
 rintro q w1 ⟨rfl,hb1⟩
 have aj:=qtr ag hb1
 have A1:=A0.below hb1
 have E1:=E0.below hb1
 have R1:=R0.below hb1
 clear x0 x1 x2 x3 x4 x5 x6 x7 x8 x9 A0 E0 R0 ag hb1 q1
 cases hs:storeS s
 case false=>
  clear hE nV
  have HD:Hid (putM s ⟨id,name,zone,wall,gap,fold⟩=(zeroS,1)):=by simp[Hid,putM,hs]
  obtain⟨r0,r1,r2,r3,r4,r5,r6,r7,r8,r9,SN,SO⟩:=R1.twC
  obtain⟨f0,f1,f2,f3,f4,f5,f6,f7,f8,f9,SJ,SK⟩:=R1.twF
  obtain⟨W,hW,⟨t0,t1,t2,t3,t4,t5,t6,t7,t8,t9,wJ,Qy⟩,_,_,J8⟩:=R1.finZ 1
  have yA:=hidP (J8 _ _ (by omega) aj)
  clear J8
  go_wp2
  exact bpr (v:=.agg #[iv 0,nS,nS,nS,nS,nS,nS,iv 0,nS,nS,iv 0,iv 1]) (by simp[results,Tryz.results6,go_sem,t0,t1,t2,t3,t4,t5,t6,t7,t8,t9,wJ,Qy]) rfl (by rw[HD.out];exact⟨⟨none,none,none,none,none,none,none,none,0,0,0,0,0,0,0,0,rfl,fun W' _=>stat_zero W'⟩,yA.out⟩)
 case true=>
  obtain⟨p1,p2,p3,⟨p4,p5⟩,p6⟩:=hE hs
  have e0:=E1.c 0 rfl
  have e1:=E1.c 1 rfl
  have e2:=E1.c 2 rfl
  have e3:=E1.c 3 rfl
  have e4:=E1.c 4 rfl
  have e5:=E1.c 5 rfl
  go_wp2_with fail
  refine(q2 _).mono ?_
  rintro q w2 ⟨rfl,ac⟩
  have an:=qtr aj ac
  have A2:=A1.below ac
  have E2:=E1.below ac
  have R2:=R1.below ac
  clear e0 e1 e2 e3 e4 e5 A1 E1 R1 aj ac q2 hE
  cases he:jbm ⟨id,name,zone,wall,gap,fold⟩
  case false=>
   clear nV
   have HD:Hid (putM s ⟨id,name,zone,wall,gap,fold⟩=(zeroS,1)):=by simp[Hid,putM,hs,he]
   obtain⟨r0,r1,r2,r3,r4,r5,r6,r7,r8,r9,SN,SO⟩:=R2.twC
   obtain⟨f0,f1,f2,f3,f4,f5,f6,f7,f8,f9,SJ,SK⟩:=R2.twF
   obtain⟨W,hW,⟨t0,t1,t2,t3,t4,t5,t6,t7,t8,t9,wJ,Qy⟩,_,_,J8⟩:=R2.finZ 1
   have yA:=hidP (J8 _ _ (by omega) an)
   clear J8
   go_wp2
   exact bpr (v:=.agg #[iv 0,nS,nS,nS,nS,nS,nS,iv 0,nS,nS,iv 0,iv 1]) (by simp[results,Tryz.results6,go_sem,t0,t1,t2,t3,t4,t5,t6,t7,t8,t9,wJ,Qy]) rfl (by rw[HD.out];exact⟨⟨none,none,none,none,none,none,none,none,0,0,0,0,0,0,0,0,rfl,fun W' _=>stat_zero W'⟩,yA.out⟩)
  case true=>
   have dZ:=hidP (nV hs he)
   have q3:=jm4 s _ zone w2 (dQ.below an).st ok
   obtain⟨x0,x1,x2,x3,x4,x5,x6,x7,x8,x9⟩:=A2.ten
   have e2:=E2.c 2 rfl
   clear nV
   go_wp2_with fail
   refine q3.mono ?_
   rintro q w3 ⟨rfl,ar⟩
   have ax:=qtr an ar
   have A3:=A2.below ar
   have E3:=E2.below ar
   have R3:=R2.below ar
   clear x0 x1 x2 x3 x4 x5 x6 x7 x8 x9 e2 A2 E2 R2 an ar q3
   cases hz:jdv s zone
   case false=>
    have HD:Hid (putM s ⟨id,name,zone,wall,gap,fold⟩=(zeroS,5)):=by simp[Hid,putM,hs,he,hz]
    obtain⟨r0,r1,r2,r3,r4,r5,r6,r7,r8,r9,SN,SO⟩:=R3.twC
    obtain⟨f0,f1,f2,f3,f4,f5,f6,f7,f8,f9,SJ,SK⟩:=R3.twF
    obtain⟨W,hW,⟨t0,t1,t2,t3,t4,t5,t6,t7,t8,t9,wJ,Qy⟩,_,_,J8⟩:=R3.finZ 5
    have yA:=hidP (J8 _ _ (by omega) ax)
    clear J8
    go_wp2
    exact bpr (v:=.agg #[iv 0,nS,nS,nS,nS,nS,nS,iv 0,nS,nS,iv 0,iv 5]) (by simp[results,Tryz.results6,go_sem,t0,t1,t2,t3,t4,t5,t6,t7,t8,t9,wJ,Qy]) rfl (by rw[HD.out];exact⟨⟨none,none,none,none,none,none,none,none,0,0,0,0,0,0,0,0,rfl,fun W' _=>stat_zero W'⟩,yA.out⟩)
   case true=>
    have q4:=jd1 s.vs (some (ad va 0)) s.vs.length s.vs.length w3 (hV.below ax) rfl (by omega)
    have x8:=A3.c 8 rfl
    go_wp2_with fail
    refine q4.mono ?_
    rintro q w4 ⟨lv,rfl,dX,aD⟩
    obtain⟨pl,cl,Rl,mN⟩:=dX.seq
    subst Rl
    have aR:=qtr ax aD
    have A4:=A3.below aD
    have E4:=E3.below aD
    have R4:=R3.below aD
    clear x8 A3 E3 R3 ax aD q4 dX
    have x8:=A4.c 8 rfl
    have x0:=A4.c 0 rfl
    have e0:=E4.c 0 rfl
    go_upto_region 6 with fail
    go_cut [44]from 24 to 44 (fun sx wx=>∃bb:Bool,sx=.bool bb/\wx=w4/\Hid (bb=true↔(60<=s.vs.length\/900000<=s.tx\/(30<=(jan s.vs).length/\hasN (jan s.vs) id=none))))
    case first=>
     by_cases tP:60<=s.vs.length
     ·have NR:(60:Int)<=(s.vs.length:Int):=by omega
      go_wp2
      go_meet
      exact⟨true,rfl,rfl,by simp[Hid,tP]⟩
     have NR:¬(60:Int)<=(s.vs.length:Int):=by omega
     by_cases SH:900000<=s.tx
     ·go_wp2
      go_meet
      exact⟨true,rfl,rfl,by simp[Hid,SH]⟩
     by_cases lm:30<=(jan s.vs).length
     ·have Tm:(30:Int)<=((jan s.vs).length:Int):=by omega
      go_wp2_with fail
      refine(spec_l06Has (jan s.vs) pl (jan s.vs).length cl id w4 mN rfl (by omega)).mono ?_
      rintro q w5 ⟨rfl,oK⟩
      have oK:=oK.symm
      subst oK
      cases hh:hasN (jan s.vs) id with
      |none=>
       simp only[ixI]
       go_wp2
       go_meet
       exact⟨true,rfl,rfl,by simp[Hid,lm,hh]⟩
      |some k=>
       have Cd:¬((k:Int)<0):=by omega
       simp only[ixI]
       go_wp2
       go_meet
       exact⟨false,rfl,rfl,by simp[Hid,tP,SH,hh]⟩
     ·have Tm:¬(30:Int)<=((jan s.vs).length:Int):=by omega
      go_wp2
      go_meet
      exact⟨false,rfl,rfl,by simp[Hid,tP,SH,lm]⟩
    obtain⟨bb,rfl,yj,HF⟩:=hcut
    have yj:=yj.symm
    subst yj
    clear x0 x8 e0
    cases bb
    case true=>
     have hfl:=HF.out.mp rfl
     clear HF
     have HD:Hid (putM s ⟨id,name,zone,wall,gap,fold⟩=(zeroS,7)):=by simp only[Hid,putM];rw[if_pos hs,if_pos he,if_pos hz,if_pos hfl]
     obtain⟨r0,r1,r2,r3,r4,r5,r6,r7,r8,r9,SN,SO⟩:=R4.twC
     obtain⟨f0,f1,f2,f3,f4,f5,f6,f7,f8,f9,SJ,SK⟩:=R4.twF
     obtain⟨W,hW,⟨t0,t1,t2,t3,t4,t5,t6,t7,t8,t9,wJ,Qy⟩,_,_,J8⟩:=R4.finZ 7
     have yA:=hidP (J8 _ _ (by omega) aR)
     clear J8
     go_wp2
     exact bpr (v:=.agg #[iv 0,nS,nS,nS,nS,nS,nS,iv 0,nS,nS,iv 0,iv 7]) (by simp[results,Tryz.results6,go_sem,t0,t1,t2,t3,t4,t5,t6,t7,t8,t9,wJ,Qy]) rfl (by rw[HD.out];exact⟨⟨none,none,none,none,none,none,none,none,0,0,0,0,0,0,0,0,rfl,fun W' _=>stat_zero W'⟩,yA.out⟩)
    case false=>
     have hfl:¬_:=fun k=>Bool.noConfusion (HF.out.mpr k)
     have tP:s.vs.length<60/\s.tx<900000:=by omega
     have HD:Hid (putM s ⟨id,name,zone,wall,gap,fold⟩=(addM s ⟨id,name,zone,wall,gap,fold⟩ false,0)):=by simp only[Hid,putM];rw[if_pos hs,if_pos he,if_pos hz,if_neg hfl]
     obtain⟨cV,Ym⟩:=dZ.out
     have Pw:=spec_l06Said s ⟨id,name,zone,wall,gap,fold⟩ false _ B w4 (dQ.below aR) ok p1 p2 p4 (by omega) (by omega) (by have:=jwf (s.vs++[verOf (s.tx+1) false ⟨id,name,zone,wall,gap,fold⟩]) (s.vs++[verOf (s.tx+1) false ⟨id,name,zone,wall,gap,fold⟩]).length;unfold jan;simp at this ⊢;omega) Ym cV
     simp only[EventD.v]at Pw
     generalize addM s ⟨id,name,zone,wall,gap,fold⟩ false=D at *
     obtain⟨x0,x1,x2,x3,x4,x5,x6,x7,x8,x9⟩:=A4.ten
     have e0:=E4.c 0 rfl
     have e1:=E4.c 1 rfl
     have e2:=E4.c 2 rfl
     have e3:=E4.c 3 rfl
     have e4:=E4.c 4 rfl
     have e5:=E4.c 5 rfl
     go_wp2_with fail
     refine Pw.mono ?_
     rintro q w9 pY
     obtain⟨a1,a2,a3,a4,a5,a6,a8,a9,c1,c2,c3,c4,c5,c6,c8,c9,rfl,cP⟩:=pY.ex
     have bZ:=pY.bel
     have R9:=R4.below bZ
     have l9:w.heap.size+1+1<w4.heap.size:=qbl (R4.c 0 rfl)
     obtain⟨r0,r1,r2,r3,r4,r5,r6,r7,r8,r9,SN,SO⟩:=R9.twC
     obtain⟨f0,f1,f2,f3,f4,f5,f6,f7,f8,f9,SJ,SK⟩:=R9.twF
     obtain⟨W,hW,⟨t0,t1,t2,t3,t4,t5,t6,t7,t8,t9,wJ,Qy⟩,T,_,J8⟩:=R9.fin (iv D.tx) (.slice a1 D.now.rules.length c1) (.slice a2 D.now.zones.length c2) (.slice a3 D.now.links.length c3) (.slice a4 D.was.rules.length c4) (.slice a5 D.was.zones.length c5) (.slice a6 D.was.links.length c6) (iv D.cur) (.slice a8 D.vs.length c8) (.slice a9 D.ix.length c9) (iv 0) (iv 0)
     have yA:=hidP (J8 _ _ (by omega) (qtr aR bZ))
     have HT:=hidP T
     have SC:=hidP cP
     clear T cP J8 x0 x1 x2 x3 x4 x5 x6 x7 x8 x9 e0 e1 e2 e3 e4 e5 Pw
     go_wp2
     exact bpr (v:=.agg (outA D a1 a2 a3 a4 a5 a6 a8 a9 c1 c2 c3 c4 c5 c6 c8 c9 0 0).toArray) (by simp[results,Tryz.results6,go_sem,t0,t1,t2,t3,t4,t5,t6,t7,t8,t9,wJ,Qy,outA]) rfl (by rw[HD.out];exact⟨⟨a1,a2,a3,a4,a5,a6,a8,a9,c1,c2,c3,c4,c5,c6,c8,c9,rfl,fun W' hW=>SC.out W' fun k h1 h2=>(hW k (by omega) (Nat.lt_of_lt_of_le h2 HT.out.size)).trans (HT.out.block k h2 (show k≠w.heap.size+1+1 by omega))⟩,yA.out⟩)
end
section
open Go.RowKit
theorem live_put{l:List VersionD}{t:Int}{e x:EventD}(h:x∈jan (l++[verOf t false e])):x=e\/x∈jan l:=by
 have h:=liveL_mem.mp h
 rw[jtf]at h
 split at h
 ·simp[verOf,VersionD.ev]at h
  exact .inl h.symm
 ·exact .inr (liveL_mem.mpr h)
theorem put_add{s:StoreD}(h:RightS s){e:EventD}(he:jbm e=true)(hz:jdv s e.zone=true):addM s e false=addS s e false:=by
 unfold addM addS
 rw[jo6 fun x hx=>?_]
 rcases live_put hx with rfl|hx
 ·exact jzf h.now h.was hz (jhs he).zone
 ·exact jzf h.now h.was (h.zone x hx) (h.ev hx).zone
theorem put_full{s:StoreD}(h:RightS s)(e:EventD)(he:jbm e=true)(hz:jdv s e.zone=true):(60<=s.vs.length\/900000<=s.tx\/(30<=(jan s.vs).length/\hasN (jan s.vs) e.id=none))↔putC s e=7:=by
 have h1:=h.vl
 have h2:=h.tx.2
 have h3:=h.ll
 have hb:(60<=s.vs.length\/900000<=s.tx)↔fullB s=true:=by
  unfold fullB
  simp only[Bool.or_eq_true,decide_eq_true_eq]
  omega
 unfold putC
 rw[if_pos he,if_pos hz]
 by_cases hx:fullB s=true
 ·rw[if_pos hx]
  exact⟨fun _=>rfl,fun _=>(hb.mpr hx).elim .inl fun k=>.inr (.inl k)⟩
 ·rw[if_neg hx]
  have hn:¬(60<=s.vs.length\/900000<=s.tx):=fun k=>hx (hb.mp k)
  cases hf:jch s.vs e.id with
  | none=>
   rw[has_none hf]
   by_cases lm:(jan s.vs).length=30
   ·simp[lm]
   ·simp[lm]
    omega
  |some y=>
   obtain⟨k,hk,_⟩:=has_some hf
   rw[hk]
   simp
   omega
theorem putC_cases(s:StoreD)(e:EventD)(he:jbm e=true)(hz:jdv s e.zone=true):putC s e=7\/putC s e=0:=by
 unfold putC
 rw[if_pos he,if_pos hz]
 split
 ·exact .inl rfl
 ·split
  ·exact .inr rfl
  ·split
   ·exact .inl rfl
   ·exact .inr rfl
theorem put_same(s:StoreD)(e:EventD):putM s e=putD s e:=by
 unfold putM putD
 rw[<- jkt]
 by_cases hs:storeS s=true
 ·have R:=rightS hs
  rw[if_pos hs,if_pos hs]
  by_cases he:jbm e=true
  ·rw[if_pos he]
   by_cases hz:jdv s e.zone=true
   ·rw[if_pos hz]
    rcases putC_cases s e he hz with h7|h0
    ·rw[if_pos ((put_full R e he hz).mpr h7),h7];rfl
    ·rw[if_neg (fun k=>by have:=(put_full R e he hz).mp k;omega),h0,put_add R he hz];rfl
   ·rw[if_neg hz]
    have:putC s e=5:=by unfold putC;rw[if_pos he,if_neg hz]
    rw[this];rfl
  ·rw[if_neg he]
   have:putC s e=1:=by unfold putC;rw[if_neg he]
   rw[this];rfl
 ·rw[if_neg hs,if_neg hs]
theorem put_spec(s:StoreD)(v:Value)(e:EventD)(B:Nat)(w:World)(hv:OwnSt w B v s)(ok:Zr s)(m1:e.name.size<=maxLen)(m2:e.zone.size<=maxLen):
  Cl 6 #[v,e.v] w (OutM (putD s e).1 0 (putD s e).2 w):=by
 rw[<- put_same]
 refine spec_Put s v e B w hv ok m1 m2 (fun h=>?_) (fun h he=>⟨⟨m1,m2⟩,fun x hx=>?_⟩)
 ·have R:=rightS h
  exact⟨R.now,R.was,R.vl,R.tx,R.ll⟩
 ·rcases live_put hx with rfl|hx
  ·exact jhs he
  ·exact(rightS h).ev hx
theorem put_is(s:StoreD)(e:EventD):(putD s e).1=zeroS\/(storeI s=true/\(putD s e).1=addS s e false):=by
 unfold putD
 by_cases hs:storeI s=true
 ·rw[if_pos hs]
  by_cases hc:putC s e=0
  ·exact .inr ⟨hs,by simp only[if_pos hc]⟩
  ·exact .inl (by simp only[if_neg hc])
 ·rw[if_neg hs];exact .inl rfl
theorem put_sz(s:StoreD)(e:EventD):(putD s e).1.now.sz<=s.now.sz/\(putD s e).1.was.sz<=s.was.sz:=by
 rcases put_is s e with h|⟨_,h⟩
 ·rw[h];exact⟨Nat.zero_le _,Nat.zero_le _⟩
 ·rw[h];exact⟨nlr _,nlr _⟩
theorem put_ok{s:StoreD}(ok:Zr s)(e:EventD)(m1:e.name.size<=maxLen)(m2:e.zone.size<=maxLen):Zr (putD s e).1:=by
 rcases put_is s e with h|⟨hs,h⟩
 ·rw[h];exact zero_ok
 ·rw[h]
  have hp:=(store_parts hs).1
  refine⟨ok.now,ok.was,fun x hx=>?_,?_,?_⟩
  ·have hx:x∈s.vs++[verOf (s.tx+1) false e]:=hx
   rcases List.mem_append.mp hx with hx|hx
   ·exact ok.vs x hx
   ·rw[List.mem_singleton.mp hx];exact⟨m1,m2⟩
  ·show(s.vs++[verOf (s.tx+1) false e]).length<=1048576
   rw[lla,List.length_singleton]
   omega
  ·exact Nat.le_trans (jep _ _) (Nat.le_trans (live_len_add _ _ (by omega)) (by omega))
end
end Go.Proofs.YtknlhkipdfkddaaGreatDoor
