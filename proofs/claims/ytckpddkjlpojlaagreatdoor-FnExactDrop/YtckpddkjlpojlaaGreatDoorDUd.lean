/- Packed. -/
import Derived.Test.YtckpddkjlpojlaaGreatDoorDTd
set_option maxHeartbeats 20000000
set_option linter.unusedSimpArgs false
namespace Go.Proofs.YtckpddkjlpojlaaGreatDoor
section
open Go.RowKit
theorem Jb.seq{w:World}{base:Nat}{v:Value}{P:List EventD}(h:Jb w base v P):∃a cap,v=.slice a P.length cap/\Za w a 6 (P.map EventD.cs):=by
 obtain⟨a,cap,h1,h2,h3⟩:=jbe (rows:=P.map EventD.cs) (by rw[llm];exact h) jbl
 rw[llm]at h1 h3
 exact⟨a,cap,h1,h2⟩
end
section
open Go.RowKit Go.Lib Go.Sort
theorem stat_zero(w:World):Jd w (.agg (stA zeroS none none none none none none none none 0 0 0 0 0 0 0 0).toArray) zeroS:=(StC.nil w 0 0 (nlr _)).st
def dropM(s:StoreD)(id:Int):StoreD × Int:=if storeS s=true then(match hasN (jan s.vs) id with
 |none=>(zeroS,5)
 |some k=>if 60<=s.vs.length\/900000<=s.tx then(zeroS,7)else(match (jan s.vs)[k]? with
  |some e=>(addM s e true,0)
  |none=>(zeroS,0)))else(zeroS,1)
set_option maxRecDepth 20000 in
theorem spec_Drop(s:StoreD)(v:Value)(id:Int)(B:Nat)(w:World)(hv:OwnSt w B v s)(ok:Zr s)(hE:storeS s=true->relB s.now=true/\relB s.was=true/\s.vs.length<=60/\(0<=s.tx/\s.tx<=900000)/\(jan s.vs).length<=30)(nV:storeS s=true->∀e∈jan s.vs,(verOf (s.tx+1) true e).ok/\∀x∈jan (s.vs++[verOf (s.tx+1) true e]),EvR x):
  Cl 17 #[v,iv id] w (OutM (dropM s id).1 0 (dropM s id).2 w):=by
 have dQ:=hv
 obtain⟨a,b,c,d,e,f,va,ia,rfl,_,_,⟨_,hV,_⟩,_,_⟩:=hv.form
 obtain⟨w0,KR,ag,A0,R0,_⟩:=two_out w (stO s a b c d e f va ia)
 have q1:=jh8 s _ _ (dQ.below ag).st ok
 obtain⟨x0,x1,x2,x3,x4,x5,x6,x7,x8,x9⟩:=A0.ten
 go_enter Tryz.func17,Tryz.ntmps17
 go_wp2_with fail
 refine q1.mono ?_
 rintro q w1 ⟨rfl,hb1⟩
 have aj:=qtr ag hb1
 have A1:=A0.below hb1
 have R1:=R0.below hb1
 clear x0 x1 x2 x3 x4 x5 x6 x7 x8 x9 A0 R0 ag hb1 q1
 cases hs:storeS s
 case false=>
  have HD:Hid (dropM s id=(zeroS,1)):=by simp[Hid,dropM,hs]
  clear hE nV hs
  obtain⟨r0,r1,r2,r3,r4,r5,r6,r7,r8,r9,SN,SO⟩:=R1.twC
  obtain⟨f0,f1,f2,f3,f4,f5,f6,f7,f8,f9,SJ,SK⟩:=R1.twF
  obtain⟨W,hW,⟨t0,t1,t2,t3,t4,t5,t6,t7,t8,t9,wJ,Qy⟩,_,_,J8⟩:=R1.finZ 1
  have yA:=hidP (J8 _ _ (by omega) aj)
  clear J8
  go_wp2
  exact bpr (v:=.agg #[iv 0,nS,nS,nS,nS,nS,nS,iv 0,nS,nS,iv 0,iv 1]) (by simp[results,Tryz.results17,go_sem,t0,t1,t2,t3,t4,t5,t6,t7,t8,t9,wJ,Qy]) rfl (by rw[HD.out];exact⟨⟨none,none,none,none,none,none,none,none,0,0,0,0,0,0,0,0,rfl,fun W' _=>stat_zero W'⟩,yA.out⟩)
 case true=>
  obtain⟨p1,p2,p3,⟨p4,p5⟩,p6⟩:=hE hs
  have dZ:=hidP (nV hs)
  have sU:Hid (dropM s id=(match hasN (jan s.vs) id with
   |none=>(zeroS,5)
   |some k=>if 60<=s.vs.length\/900000<=s.tx then(zeroS,7)else(match (jan s.vs)[k]? with
    |some e=>(addM s e true,0)
    |none=>(zeroS,0)))):=by simp[Hid,dropM,hs]
  have q2:=jd1 s.vs (some (ad va 0)) s.vs.length s.vs.length w1 (hV.below aj) rfl (by omega)
  have x8:=A1.c 8 rfl
  clear hE nV hs
  go_wp2_with fail
  refine q2.mono ?_
  rintro q w2 ⟨lv,rfl,aW,ac⟩
  obtain⟨pl,cl,Rl,dR⟩:=aW.seq
  have f9:w.heap.size+1<w1.heap.size:=qbl (R1.c 0 rfl)
  have jg:∀g,Value.ownBlock lv=some g->w.heap.size+1<g:=fun g hg=>Nat.lt_of_lt_of_le f9 (World.ownsRow.lt aW g hg).1
  subst Rl
  have an:=qtr aj ac
  have A2:=A1.below ac
  have R2:=R1.below ac
  have q3:=spec_l06Has (jan s.vs) pl (jan s.vs).length cl id w2 dR rfl (by omega)
  clear x8 A1 R1 aj ac q2 aW
  go_wp2_with fail
  refine q3.mono ?_
  rintro q w3 ⟨rfl,rfl⟩
  clear q3
  cases hh:hasN (jan s.vs) id with
  |none=>
   have HD:Hid (dropM s id=(zeroS,5)):=by simp only[Hid];rw[sU.out,hh]
   clear hh sU dZ
   simp only[ixI]
   obtain⟨r0,r1,r2,r3,r4,r5,r6,r7,r8,r9,SN,SO⟩:=R2.twC
   obtain⟨f0,f1,f2,f3,f4,f5,f6,f7,f8,f9,SJ,SK⟩:=R2.twF
   obtain⟨W,hW,⟨t0,t1,t2,t3,t4,t5,t6,t7,t8,t9,wJ,Qy⟩,_,_,J8⟩:=R2.finZ 5
   have yA:=hidP (J8 _ _ (by omega) an)
   clear J8
   go_wp2
   exact bpr (v:=.agg #[iv 0,nS,nS,nS,nS,nS,nS,iv 0,nS,nS,iv 0,iv 5]) (by simp[results,Tryz.results17,go_sem,t0,t1,t2,t3,t4,t5,t6,t7,t8,t9,wJ,Qy]) rfl (by rw[HD.out];exact⟨⟨none,none,none,none,none,none,none,none,0,0,0,0,0,0,0,0,rfl,fun W' _=>stat_zero W'⟩,yA.out⟩)
  |some k=>
   simp only[ixI]
   have Cd:¬((k:Int)<0):=by omega
   obtain⟨ev,jb⟩:∃ev,(jan s.vs)[k]? =some ev:=by
    unfold hasN at hh
    obtain⟨hl,_⟩:=List.findIdx?_eq_some_iff_getElem.mp hh
    exact⟨_,lgg hl⟩
   have eY:k<(jan s.vs).length:=(List.getElem?_eq_some_iff.1 jb).1
   have a0:(0:Int)<=(k:Int):=by omega
   have NJ:(k:Int)<((jan s.vs).length:Int):=by omega
   obtain⟨x0,x1,x2,x3,x4,x5,x6,x7,x8,x9⟩:=A2.ten
   by_cases iJ:60<=s.vs.length\/900000<=s.tx
   ·have HD:Hid (dropM s id=(zeroS,7)):=by simp only[Hid];rw[sU.out,hh];simp[iJ]
    clear hh sU dZ jb
    by_cases tP:60<=s.vs.length
    ·have NR:(60:Int)<=(s.vs.length:Int):=by omega
     clear iJ
     obtain⟨r0,r1,r2,r3,r4,r5,r6,r7,r8,r9,SN,SO⟩:=R2.twC
     obtain⟨f0,f1,f2,f3,f4,f5,f6,f7,f8,f9,SJ,SK⟩:=R2.twF
     obtain⟨W,hW,⟨t0,t1,t2,t3,t4,t5,t6,t7,t8,t9,wJ,Qy⟩,_,_,J8⟩:=R2.finZ 7
     have yA:=hidP (J8 _ _ (by omega) an)
     clear J8
     go_wp2
     exact bpr (v:=.agg #[iv 0,nS,nS,nS,nS,nS,nS,iv 0,nS,nS,iv 0,iv 7]) (by simp[results,Tryz.results17,go_sem,t0,t1,t2,t3,t4,t5,t6,t7,t8,t9,wJ,Qy]) rfl (by rw[HD.out];exact⟨⟨none,none,none,none,none,none,none,none,0,0,0,0,0,0,0,0,rfl,fun W' _=>stat_zero W'⟩,yA.out⟩)
    ·have NR:¬(60:Int)<=(s.vs.length:Int):=by omega
     have Rb:(900000:Int)<=s.tx:=by omega
     clear iJ
     obtain⟨r0,r1,r2,r3,r4,r5,r6,r7,r8,r9,SN,SO⟩:=R2.twC
     obtain⟨f0,f1,f2,f3,f4,f5,f6,f7,f8,f9,SJ,SK⟩:=R2.twF
     obtain⟨W,hW,⟨t0,t1,t2,t3,t4,t5,t6,t7,t8,t9,wJ,Qy⟩,_,_,J8⟩:=R2.finZ 7
     have yA:=hidP (J8 _ _ (by omega) an)
     clear J8
     go_wp2
     exact bpr (v:=.agg #[iv 0,nS,nS,nS,nS,nS,nS,iv 0,nS,nS,iv 0,iv 7]) (by simp[results,Tryz.results17,go_sem,t0,t1,t2,t3,t4,t5,t6,t7,t8,t9,wJ,Qy]) rfl (by rw[HD.out];exact⟨⟨none,none,none,none,none,none,none,none,0,0,0,0,0,0,0,0,rfl,fun W' _=>stat_zero W'⟩,yA.out⟩)
   ·have HD:Hid (dropM s id=(addM s ev true,0)):=by simp only[Hid];rw[sU.out,hh];simp[iJ,jb]
    have NR:¬(60:Int)<=(s.vs.length:Int):=by omega
    have Rb:¬(900000:Int)<=s.tx:=by omega
    have ap:((jan s.vs).map EventD.cs)[k]? =some ev.cs:=by rw[lgm,jb];rfl
    obtain⟨bl,ol,rfl,hc⟩:=dR.at (i:=k) ap
    have az:bl≠w.heap.size+1:=by have:=jg bl rfl;omega
    have Rm:w.heap.size+1≠bl:=fun h=>az h.symm
    have c0:w3.cell? (ad bl (ol+k*6))=some (iv ev.id):=by simpa using hc 0 _ rfl
    have NQ:=hc 1 _ rfl
    have Ir:=hc 2 _ rfl
    have xD:=hc 3 _ rfl
    have NS:=hc 4 _ rfl
    have NT:=hc 5 _ rfl
    obtain⟨cV,Ym⟩:=dZ.out ev (lmg jb)
    have VS:=an.trans ((jab w3).mono an.size)
    have Pw:=spec_l06Said s ev true _ B w3.drew (dQ.below VS) ok p1 p2 p4 (by omega) (by omega) (by have:=jwf (s.vs++[verOf (s.tx+1) true ev]) (s.vs++[verOf (s.tx+1) true ev]).length;unfold jan;simp at this ⊢;omega) Ym cV
    simp only[EventD.v]at Pw
    have QI:=hidP A2
    have lh:=hidP R2
    have jI:=hidP VS
    have iq:=hidP (And.intro c0 (And.intro NQ (And.intro Ir (And.intro xD (And.intro NS NT)))))
    have RR:w.heap.size+1<w3.heap.size:=qbl (R2.c 0 rfl)
    clear hh sU dZ jb ap hc dR iJ A2 R2 an VS cV Ym hv dQ hV
    generalize addM s ev true=D at *
    go_wp2_with fail
    go_region_held3 (fun w'=>w'.cell? (ad w.heap.size 0)=some (iv s.tx)/\w'.cell? (ad w.heap.size 1)=some (so a s.now.rules.length s.now.rules.length)/\w'.cell? (ad w.heap.size 2)=some (so b s.now.zones.length s.now.zones.length)/\w'.cell? (ad w.heap.size 3)=some (so c s.now.links.length s.now.links.length)/\w'.cell? (ad w.heap.size 4)=some (so d s.was.rules.length s.was.rules.length)/\w'.cell? (ad w.heap.size 5)=some (so e s.was.zones.length s.was.zones.length)/\w'.cell? (ad w.heap.size 6)=some (so f s.was.links.length s.was.links.length)/\w'.cell? (ad w.heap.size 7)=some (iv s.cur)/\w'.cell? (ad w.heap.size 8)=some (so va s.vs.length s.vs.length)/\w'.cell? (ad w.heap.size 9)=some (so ia s.ix.length s.ix.length)/\w'.cell? (ad bl (ol+k*6))=some (iv ev.id)/\w'.cell? (ad bl (ol+k*6+1))=some (.string ev.name)/\w'.cell? (ad bl (ol+k*6+2))=some (.string ev.zone)/\w'.cell? (ad bl (ol+k*6+3))=some (iv ev.wall)/\w'.cell? (ad bl (ol+k*6+4))=some (iv ev.gap)/\w'.cell? (ad bl (ol+k*6+5))=some (iv ev.fold)) (go_keep) ((go_at_call 29;refine Pw.mono ?_;rintro q w4 pW;obtain⟨a1,a2,a3,a4,a5,a6,a8,a9,c1,c2,c3,c4,c5,c6,c8,c9,rfl,Yn⟩:=pW.ex;have aD:=pW.bel;obtain⟨Lx,Ly,Lz,LA,LB,LC,LD,LE,LF,LG⟩:=(QI.out.below ((jab w3).trans (aD.mono (nlr _)))).ten;have R4:=lh.out.below ((jab w3).trans (aD.mono (nlr _)));obtain⟨r0,r1,r2,r3,r4,r5,r6,r7,r8,r9,SN,SO⟩:=R4.twC;obtain⟨f0,f1,f2,f3,f4,f5,f6,f7,f8,f9,SJ,SK⟩:=R4.twF;have d0:=jaa aD iq.out.1;have d1:=jaa aD iq.out.2.1;have d2:=jaa aD iq.out.2.2.1;have d3:=jaa aD iq.out.2.2.2.1;have d4:=jaa aD iq.out.2.2.2.2.1;have d5:=jaa aD iq.out.2.2.2.2.2))
    clear r0 r1 r2 r3 r4 r5 r6 r7 r8 r9 SN SO f0 f1 f2 f3 f4 f5 f6 f7 f8 f9 SJ SK Lx Ly Lz LA LB LC LD LE LF LG d0 d1 d2 d3 d4 d5
    obtain⟨W,hW,⟨t0,t1,t2,t3,t4,t5,t6,t7,t8,t9,wJ,Qy⟩,T,_,J8⟩:=R4.fin (iv D.tx) (.slice a1 D.now.rules.length c1) (.slice a2 D.now.zones.length c2) (.slice a3 D.now.links.length c3) (.slice a4 D.was.rules.length c4) (.slice a5 D.was.zones.length c5) (.slice a6 D.was.links.length c6) (iv D.cur) (.slice a8 D.vs.length c8) (.slice a9 D.ix.length c9) (iv 0) (iv 0)
    have yA:=hidP (J8 _ _ (by omega) (qtr jI.out aD))
    have HT:=hidP T
    have yV:=hidP Yn
    clear T Yn J8
    rw[hW]
    clear hW
    go_wp2
    exact bpr (v:=.agg (outA D a1 a2 a3 a4 a5 a6 a8 a9 c1 c2 c3 c4 c5 c6 c8 c9 0 0).toArray) (by simp[results,Tryz.results17,go_sem,t0,t1,t2,t3,t4,t5,t6,t7,t8,t9,wJ,Qy,outA]) rfl (by rw[HD.out];exact⟨⟨a1,a2,a3,a4,a5,a6,a8,a9,c1,c2,c3,c4,c5,c6,c8,c9,rfl,fun W' hW=>yV.out W' fun k h1 h2=>(have ES:w3.heap.size<=k:=h1;(hW k (by omega) (Nat.lt_of_lt_of_le h2 HT.out.size)).trans (HT.out.block k h2 (show k≠w.heap.size+1 by omega)))⟩,yA.out⟩)
end
section
open Go.RowKit
structure RightS(s:StoreD):Prop where
 now:relB s.now=true
 was:relB s.was=true
 vl:s.vs.length<=60
 tx:0<=s.tx/\s.tx<=900000
 ver:verB s.vs s.tx=true
 ll:(jan s.vs).length<=30
 zone:∀x∈jan s.vs,jdv s x.zone=true
theorem rightS{s:StoreD}(h:storeS s=true):RightS s:=by
 have hp:=store_parts (jkt s ▸ h)
 unfold storeS at h
 simp only[bat,List.all_eq_true]at h
 exact⟨h.1,h.2.1,hp.1,hp.2.1,h.2.2.2.1,hp.2.2.2,h.2.2.2.2.2.2.2.1⟩
theorem RightS.ev{s:StoreD}(h:RightS s){e:EventD}(he:e∈jan s.vs):EvR e:=by
 obtain⟨v,hm,rfl⟩:=jl5 he
 exact jhs (jfk h.ver v hm)
theorem live_gone{l:List VersionD}{t:Int}{e x:EventD}(h:x∈jan (l++[verOf t true e])):x∈jan l:=by
 have h:=liveL_mem.mp h
 rw[jtf]at h
 split at h
 ·simp[verOf]at h
 ·exact liveL_mem.mpr h
theorem live_id{l:List VersionD}{id:Int}{e:EventD}(h:jch l id=some e):e.id=id:=by
 unfold jch at h
 cases hk:jci l id with
 |none=>rw[hk]at h;cases h
 |some k=>
  obtain⟨_,⟨v,hv,hi⟩,_⟩:=jdc hk
  rw[hk]at h
  simp only[hv]at h
  split at h
  ·cases h
  ·cases h;exact hi
theorem has_none{l:List VersionD}{id:Int}(h:jch l id=none):hasN (jan l) id=none:=by
 unfold hasN
 rw[List.findIdx?_eq_none_iff]
 intro x hx
 refine dfe fun hc=>?_
 have:=liveL_mem.mp hx
 rw[hc,h]at this
 cases this
theorem has_some{l:List VersionD}{id:Int}{e:EventD}(h:jch l id=some e):∃k,hasN (jan l) id=some k/\(jan l)[k]? =some e:=by
 have hid:=live_id h
 have hm:e∈jan l:=liveL_mem.mpr (by rw[hid];exact h)
 cases hk:hasN (jan l) id with
 |none=>
  unfold hasN at hk
  rw[List.findIdx?_eq_none_iff]at hk
  have:=hk e hm
  simp[hid]at this
 |some k=>
  unfold hasN at hk
  obtain⟨hl,hx,_⟩:=List.findIdx?_eq_some_iff_getElem.mp hk
  have hx:=odt hx
  have h2:=liveL_mem.mp (List.getElem_mem hl)
  rw[hx,h]at h2
  cases h2
  exact⟨k,rfl,lgg hl⟩
theorem add_same{s:StoreD}(h:RightS s)(e:EventD):addM s e true=addS s e true:=by
 unfold addM addS
 rw[jo6 fun x hx=>jzf h.now h.was (h.zone x (live_gone hx)) (h.ev (live_gone hx)).zone]
theorem drop_same(s:StoreD)(id:Int):dropM s id=dropD s id:=by
 unfold dropM dropD
 rw[<- jkt]
 by_cases hs:storeS s=true
 ·have R:=rightS hs
  rw[if_pos hs,if_pos hs]
  cases hf:jch s.vs id with
  |none=>rw[has_none hf]
  | some e=>
   obtain⟨k,hk,kD⟩:=has_some hf
   rw[hk]
   simp only[kD]
   have h1:=R.vl
   have h2:=R.tx.2
   have hb:(60<=s.vs.length\/900000<=s.tx)↔fullB s=true:=by
    unfold fullB
    simp only[Bool.or_eq_true,decide_eq_true_eq]
    omega
   rw[add_same R]
   by_cases hx:fullB s=true
   ·rw[if_pos hx,if_pos (hb.mpr hx)]
   ·rw[if_neg hx,if_neg (fun h=>hx (hb.mp h))]
 ·rw[if_neg hs,if_neg hs]
theorem drop_spec(s:StoreD)(v:Value)(id:Int)(B:Nat)(w:World)(hv:OwnSt w B v s)(ok:Zr s):
  Cl 17 #[v,iv id] w (OutM (dropD s id).1 0 (dropD s id).2 w):=by
 rw[<- drop_same]
 refine spec_Drop s v id B w hv ok (fun h=>?_) (fun h e he=>⟨?_,fun x hx=>(rightS h).ev (live_gone hx)⟩)
 ·have R:=rightS h
  exact⟨R.now,R.was,R.vl,R.tx,R.ll⟩
 ·obtain⟨u,hu,rfl⟩:=jl5 he
  exact ok.vs u hu
end
section
open Go.RowKit
theorem rel0_ok:Jk ⟨[],[],[]⟩:=⟨⟨⟨Nat.zero_le _,fun x hx=>by simp at hx⟩,⟨Nat.zero_le _,fun x hx=>by simp at hx⟩,⟨Nat.zero_le _,fun x hx=>by simp at hx⟩⟩,⟨Nat.zero_le _,Nat.zero_le _,Nat.zero_le _,fun x hx=>by simp at hx⟩,fun x hx=>by simp at hx⟩
theorem zero_ok:Zr zeroS:=⟨rel0_ok,rel0_ok,fun x hx=>by simp[zeroS]at hx,Nat.zero_le _,Nat.zero_le _⟩
theorem drop_is(s:StoreD)(id:Int):(dropD s id).1=zeroS\/∃e,storeI s=true/\jch s.vs id=some e/\(dropD s id).1=addS s e true:=by
 unfold dropD
 by_cases hs:storeI s=true
 ·rw[if_pos hs]
  cases hf:jch s.vs id with
  |none=>exact .inl rfl
  |some e=>
   by_cases hx:fullB s=true
   ·exact .inl (by simp only[if_pos hx])
   ·simp only[if_neg hx];exact .inr ⟨e,hs,rfl,rfl⟩
 ·rw[if_neg hs];exact .inl rfl
theorem drop_sz(s:StoreD)(id:Int):(dropD s id).1.now.sz<=s.now.sz/\(dropD s id).1.was.sz<=s.was.sz:=by
 rcases drop_is s id with h|⟨e,_,_,h⟩
 ·rw[h];exact⟨Nat.zero_le _,Nat.zero_le _⟩
 ·rw[h];exact⟨nlr _,nlr _⟩
theorem drop_ok{s:StoreD}(ok:Zr s)(id:Int):Zr (dropD s id).1:=by
 rcases drop_is s id with h|⟨e,hs,hf,h⟩
 ·rw[h];exact zero_ok
 ·rw[h]
  have hp:=(store_parts hs).1
  obtain⟨u,hu,rfl⟩:=live_ver hf
  refine⟨ok.now,ok.was,fun x hx=>?_,?_,?_⟩
  ·have hx:x∈s.vs++[verOf (s.tx+1) true u.ev]:=hx
   rcases List.mem_append.mp hx with hx|hx
   ·exact ok.vs x hx
   ·rw[List.mem_singleton.mp hx];exact ok.vs u hu
  ·show(s.vs++[verOf (s.tx+1) true u.ev]).length<=1048576
   rw[lla,List.length_singleton]
   omega
  ·exact Nat.le_trans (jep _ _) (Nat.le_trans (live_len_add _ _ (by omega)) (by omega))
end
end Go.Proofs.YtckpddkjlpojlaaGreatDoor
