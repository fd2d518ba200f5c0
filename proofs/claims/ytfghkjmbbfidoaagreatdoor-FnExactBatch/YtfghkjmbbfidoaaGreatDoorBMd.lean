import Derived.Test.YtfghkjmbbfidoaaGreatDoorBPd
set_option maxRecDepth 20000
set_option maxHeartbeats 0
set_option linter.unusedSimpArgs false
open Go.RowKit
namespace Go.Proofs.YtfghkjmbbfidoaaGreatDoor
theorem spec_l06Instant(r:RelD)(v:Value)(ev:EventD)(w:World)(hv:Zd w v r)(ok:Jk r)(hr:relB r=true)(jb:EvR ev){M:Int × Bool}(hM:momR r ev=M):
  Cl 20 #[v,ev.v] w fun q w'=>q=.returned (.tuple #[iv M.1,.bool M.2])/\Bw w w':=by
 have dQ:=hv
 obtain⟨a,b,c,ca,cb,cc,rfl,_⟩:=hv.form
 obtain⟨id,name,zone,wall,gap,fold⟩:=ev
 obtain⟨k1,k2,k3,k4,k5,k6,k7⟩:=jb
 simp only[EventD.v]at *
 obtain⟨w0,KR,ag,A0,E0,z0⟩:=two_alloc w [.slice a r.rules.length ca,.slice b r.zones.length cb,.slice c r.links.length cc] [iv id,.string name,.string zone,iv wall,iv gap,iv fold] 36 59
 have hT:=jsy tabC r _ zone w0 (dQ.below ag) ok.sm ok.on k1 hr
 have x0:=A0.c 0 rfl
 have x1:=A0.c 1 rfl
 have x2:=A0.c 2 rfl
 have e2:=E0.c 2 rfl
 have HE:=hidL E0
 have HM:=hidL hM
 clear hv dQ A0 E0 hM
 unfold Cl;go_in
 go_wp2_with fail
 refine hT.mono ?_
 rintro q w1 hP
 obtain⟨tv,rfl,hO,hb1⟩:=hP.ex
 obtain⟨ta,tn,tc,rfl⟩:=jad hO
 have b2:=qal w1 (.cells #[.slice ta tn tc,iv (tabD r zone).1] 97)
 have Tx:=qtr hb1 b2
 have E1:=HE.out.below Tx
 have e3:=E1.c 3 rfl
 have e4:=E1.c 4 rfl
 have e5:=E1.c 5 rfl
 have T1:=Zh.new w1 [.slice ta tn tc,iv (tabD r zone).1] 97
 have t0:=T1.c 0 rfl
 have t1:=T1.c 1 rfl
 have aj:=qtr ag Tx
 clear hT hP x0 x1 x2 e2 HE E1 T1
 by_cases hk:(tabD r zone).1=0
 ·have oz:=(jm1 hk).2.2.2.right
  have HR:Hid (((resR (tabD r zone).2 wall gap fold).1,decide ((resR (tabD r zone).2 wall gap fold).2=0))=M):=by
   simp only[Hid]
   rw[<- HM.out]
   unfold momR
   rw[jrp hk,jri oz (jma k2 k3) (jma k4 k5) (jma k6 k7)]
  obtain⟨l,i9⟩:=qeb ((tabD r zone).2)
  rw[i9]at oz HR hO
  obtain⟨a7,c7,h7,f8⟩:=Zf.seq hO
  obtain⟨rfl,rfl,rfl⟩:ta=a7/\tn=l.length/\tc=c7:=by injection h7 with p q r;exact⟨p,q,r⟩
  have hR:=jh6 l (.agg #[.slice ta l.length tc]) wall gap fold _ ⟨ta,tc,rfl,f8.below b2⟩ (j0x oz) k2 k3 k4 k5 k6 k7
  obtain⟨⟨n7,c7⟩,sG⟩:=qeb (resR l wall gap fold)
  rw[sG]at hR HR
  simp only[outV]at hR
  rw[hk]at t1 aj t0 hR e3 e4 e5 ⊢
  clear sG i9 oz hO f8 h7 hb1 b2 Tx
  go_wp2_with fail
  refine hR.mono ?_
  rintro q w2 ⟨rfl,ac⟩
  have an:=(qtr aj ac).alloc (by have:=aj.size;have:=ac.size;omega) (.cells #[iv n7,iv c7] 100)
  have N2:=Zh.new w2 [iv n7,iv c7] 100
  have u0:=N2.c 0 rfl
  have u1:=N2.c 1 rfl
  have HB:=hidL an
  clear hR e3 e4 e5 t0 t1 ac aj N2 an
  by_cases hc:c7=0
  ·subst hc
   go_wp2_with fail
   go_quiet (fail)
   go_wp2
   go_ret2
   exact⟨by rw[<- HR.out];rfl,HB.out.trans ⟨rfl,rfl,rfl,nlr _,fun _ _=>rfl⟩⟩
  ·have cU:(c7==0)=false:=by simp[hc]
   go_wp2_with fail
   go_quiet (fail)
   go_wp2
   go_ret2
   exact⟨by rw[<- HR.out,dfe hc];rfl,HB.out.trans ⟨rfl,rfl,rfl,nlr _,fun _ _=>rfl⟩⟩
 ·have fy:((tabD r zone).1 != 0)=true:=by simpa using hk
  have HB:=hidL aj
  have HK:=hidL hk
  clear e3 e4 e5 aj hO b2 Tx hb1 hk
  go_wp2
  go_ret2
  exact⟨by rw[<- HM.out];unfold momR;rw[jv3 HK.out];rfl,HB.out⟩
section
open Go.RowKit Go.Lib Go.Sort
def difB(p q:Int × Bool):Bool:=(p.2 != q.2) || (p.2&&(p.1 != q.1))
def cntM(f g:EventD->Int × Bool)(l:List EventD):Nat:=(l.filter fun e=>difB (f e) (g e)).length
def curM(c:Int)(l:List EventD):Int:=if l=[]then c else lastC l+1
theorem curM_add(c:Int)(l:List EventD)(x:EventD):curM c (l++[x])=x.id+1:=by unfold curM lastC;simp
theorem cntM_add(f g:EventD->Int × Bool)(l:List EventD)(x:EventD):cntM f g (l++[x])=cntM f g l+(if difB (f x) (g x)=true then 1 else 0):=by
 unfold cntM
 rw[List.filter_append,lla]
 cases h:difB (f x) (g x)<;>simp[h]
theorem filt_no{p:EventD->Bool}{l:List EventD}{i:Nat}{x:EventD}(h:l[i]? =some x)(hp:p x=false):(l.take (i+1)).filter p=(l.take i).filter p:=by
 rw[List.take_add_one,h,List.filter_append];simp[hp]
theorem filt_yes{p:EventD->Bool}{l:List EventD}{i:Nat}{x:EventD}(h:l[i]? =some x)(hp:p x=true):(l.take (i+1)).filter p=(l.take i).filter p++[x]:=by
 rw[List.take_add_one,h,List.filter_append];simp[hp]
theorem filt_full{p:EventD->Bool}{l:List EventD}{i m:Nat}{x:EventD}(h:l[i]? =some x)(hp:p x=true)(hm:((l.take i).filter p).length=m):(l.filter p).take m=(l.take i).filter p/\¬(l.filter p).length<=m:=by
 have e:l.filter p=((l.take i).filter p++[x])++(l.drop (i+1)).filter p:=by rw[<- filt_yes h hp, <- List.filter_append,List.take_append_drop]
 rw[e,List.append_assoc]
 constructor
 ·exact List.take_left' hm
 ·simp;omega
def folM(s:StoreD)(m:Nat):StoreD:=⟨s.tx,s.now,(stB s m).was,(stB s m).cur,s.vs,entF (momS (stB s m)) (jan s.vs)⟩
def batM(s:StoreD)(pv:Int):StoreD × Int × Int:=if storeS s=true then(match batC s pv with
 |some c=>(zeroS,0,c)
 |none=>(folM s pv.toNat,cntM (momR s.was) (momR s.now) ((waitE s).take pv.toNat),0))else(zeroS,0,1)
def atC(s:StoreD)(z:Int):StoreD:=⟨s.tx,s.now,s.was,z,s.vs,s.ix⟩
structure BatS(s:StoreD)(w W:World)(PV RV:List Value)(g:Nat)(L:List Value)(n3 w3 vv vi lv:Value):Prop where
 par:Zh W w.heap.size PV
 res:Zh W (w.heap.size+1) RV
 var:W.heap[g]? =some (.cells L.toArray 40 (0,0))
 now:RelFrom (w.heap.size+1+1) W n3 s.now
 was:RelFrom (w.heap.size+1+1) W w3 s.was
 vs:W.ownsRow (w.heap.size+1+1) 92 8 vv s.vs.length (s.vs.map VersionD.cs).flatten
 ix:W.ownsRow (w.heap.size+1+1) 88 2 vi s.ix.length (s.ix.map EntryD.cs).flatten
 live:Jb W (w.heap.size+1+1) lv (jan s.vs)
 ge:w.heap.size+1+1<=g
 bel:Bw w W
theorem BatS.below{s:StoreD}{w W:World}{PV RV:List Value}{g:Nat}{L:List Value}{n3 w3 vv vi lv:Value}{W':World}(h:BatS s w W PV RV g L n3 w3 vv vi lv)(hb:Bw W W'):BatS s w W' PV RV g L n3 w3 vv vi lv:=⟨h.par.below hb,h.res.below hb,(hb.block g (heap_lt h.var)).trans h.var,h.now.below hb,h.was.below hb,jac h.vs hb,jac h.ix hb,jac h.live hb,h.ge,h.bel.trans (hb.mono h.bel.size)⟩
theorem BatS.set{s:StoreD}{w W:World}{PV RV:List Value}{g:Nat}{L:List Value}{n3 w3 vv vi lv:Value}(h:BatS s w W PV RV g L n3 w3 vv vi lv)(j:Nat)(v:Value):BatS s w (W.setCell (ad g j) v) PV RV g (L.set j v) n3 w3 vv vi lv:=by
 have K7:=h.ge
 exact⟨h.par.other (by omega) _,h.res.other (by omega) _,by rw[<- List.setIfInBounds_toArray];exact set_heap h.var,h.now.setT h.var not_row_store,h.was.setT h.var not_row_store,set_ownR h.vs h.var (by decide),set_ownR h.ix h.var (by decide),set_ownR h.live h.var (by decide),K7,h.bel.setCell (show w.heap.size<=g by omega) _⟩
theorem ver_rowB{w:World}{base:Nat}{e:TypeId}{a:Option Addr}{cap:Nat}{l:List VersionD}(h:w.ownsRow base e 8 (.slice a l.length cap) l.length (l.map VersionD.cs).flatten):Za w a 8 (l.map VersionD.cs)/\l.length<=cap:=by
 obtain⟨a',c',he,hs,_⟩:=jbe (rows:=l.map VersionD.cs) (by rw[llm];exact h) (jlb (cs:=VersionD.cs) (fun _=>rfl) _)
 injection he with he
 exact⟨by rw[he];exact hs,own_cap h⟩
theorem rel0_from(B:Nat)(w:World):RelFrom B w (.agg #[nS,nS,nS]) ⟨[],[],[]⟩:=fun W' _=>rel0_at W'
theorem spec_Batch(s:StoreD)(v:Value)(pv:Int)(B:Nat)(w:World)(hv:OwnSt w B v s)(ok:Zr s)(hE:storeS s=true->relB s.now=true/\relB s.was=true/\s.vs.length<=60/\(jan s.vs).length<=30)(nV:storeS s=true->∀e∈jan s.vs,EvR e/\1<=e.id/\e.id<=1000000):
  Cl 5 #[v,iv pv] w (OutM (batM s pv).1 (batM s pv).2.1 (batM s pv).2.2 w):=by
 have dQ:=hv
 obtain⟨a,b,c,d,e,f,va,ia,rfl,UY,Va,⟨_,hV,_⟩,_,_⟩:=hv.form
 obtain⟨w0,KR,ag,A0,R0,z0⟩:=two_out w (stO s a b c d e f va ia)
 have q1:=jh8 s _ _ (dQ.below ag).st ok
 obtain⟨x0,x1,x2,x3,x4,x5,x6,x7,x8,x9⟩:=A0.ten
 unfold Cl;go_in
 go_wp2_with fail
 clear KR
 refine q1.mono ?_
 rintro q w1 ⟨rfl,hb1⟩
 have aj:=qtr ag hb1
 have aH:w.heap.size+1+1<=w1.heap.size:=by rw[<- z0];exact hb1.size
 have A1:=A0.below hb1
 have R1:=R0.below hb1
 clear x0 x1 x2 x3 x4 x5 x6 x7 x8 x9 A0 R0 ag hb1 q1 z0
 cases hs:storeS s
 case false=>
  have HD:Hid (batM s pv=(zeroS,0,1)):=by simp[Hid,batM,hs]
  clear hE nV hs
  obtain⟨r0,r1,r2,r3,r4,r5,r6,r7,r8,r9,SN,SO⟩:=R1.twC
  obtain⟨f0,f1,f2,f3,f4,f5,f6,f7,f8,f9,SJ,SK⟩:=R1.twF
  obtain⟨W,hW,⟨t0,t1,t2,t3,t4,t5,t6,t7,t8,t9,wJ,Qy⟩,_,_,J8⟩:=R1.finZ 1
  have yA:=hidP (J8 _ _ (by omega) aj)
  clear J8
  go_wp2
  exact bpr (v:=.agg #[iv 0,nS,nS,nS,nS,nS,nS,iv 0,nS,nS,iv 0,iv 1]) (by simp[results,Tryz.results5,go_sem,t0,t1,t2,t3,t4,t5,t6,t7,t8,t9,wJ,Qy]) rfl (by rw[HD.out];exact⟨⟨none,none,none,none,none,none,none,none,0,0,0,0,0,0,0,0,rfl,fun W' _=>stat_zero W'⟩,yA.out⟩)
 case true=>
  obtain⟨p1,p2,p3,p6⟩:=hE hs
  have dZ:=hidP (nV hs)
  have sU:Hid (batM s pv=(match batC s pv with
   |some c=>(zeroS,0,c)
   |none=>(folM s pv.toNat,cntM (momR s.was) (momR s.now) ((waitE s).take pv.toNat),0))):=by simp[Hid,batM,hs]
  clear hE nV hs
  by_cases hr:1<=pv/\pv<=1000
  case neg=>
   have HD:Hid (batM s pv=(zeroS,0,1)):=by simp only[Hid];rw[sU.out];simp[batC,hr]
   have hI:=jnc pv 1 1000 w1 (by omega)
   clear sU dZ hr
   go_wp2_with fail
   refine hI.mono ?_
   rintro q w2 ⟨rfl,rfl⟩
   obtain⟨r0,r1,r2,r3,r4,r5,r6,r7,r8,r9,SN,SO⟩:=R1.twC
   obtain⟨f0,f1,f2,f3,f4,f5,f6,f7,f8,f9,SJ,SK⟩:=R1.twF
   obtain⟨W,hW,⟨t0,t1,t2,t3,t4,t5,t6,t7,t8,t9,wJ,Qy⟩,_,_,J8⟩:=R1.finZ 1
   have yA:=hidP (J8 _ _ (by omega) aj)
   clear J8
   go_wp2
   exact bpr (v:=.agg #[iv 0,nS,nS,nS,nS,nS,nS,iv 0,nS,nS,iv 0,iv 1]) (by simp[results,Tryz.results5,go_sem,t0,t1,t2,t3,t4,t5,t6,t7,t8,t9,wJ,Qy]) rfl (by rw[HD.out];exact⟨⟨none,none,none,none,none,none,none,none,0,0,0,0,0,0,0,0,rfl,fun W' _=>stat_zero W'⟩,yA.out⟩)
  case pos=>
  have hI:=jnb pv 1 1000 w1 hr.1 hr.2
  have x7:=A1.c 7 rfl
  by_cases hc:s.cur=0
  case pos=>
   have HD:Hid (batM s pv=(zeroS,0,10)):=by simp only[Hid];rw[sU.out];simp[batC,hr,hc]
   rw[hc]at x7
   clear sU dZ hr
   go_wp2_with fail
   refine hI.mono ?_
   rintro q w2 ⟨rfl,rfl⟩
   obtain⟨r0,r1,r2,r3,r4,r5,r6,r7,r8,r9,SN,SO⟩:=R1.twC
   obtain⟨f0,f1,f2,f3,f4,f5,f6,f7,f8,f9,SJ,SK⟩:=R1.twF
   obtain⟨W,hW,⟨t0,t1,t2,t3,t4,t5,t6,t7,t8,t9,wJ,Qy⟩,_,_,J8⟩:=R1.finZ 10
   have yA:=hidP (J8 _ _ (by omega) aj)
   clear J8
   go_wp2
   exact bpr (v:=.agg #[iv 0,nS,nS,nS,nS,nS,nS,iv 0,nS,nS,iv 0,iv 10]) (by simp[results,Tryz.results5,go_sem,t0,t1,t2,t3,t4,t5,t6,t7,t8,t9,wJ,Qy]) rfl (by rw[HD.out];exact⟨⟨none,none,none,none,none,none,none,none,0,0,0,0,0,0,0,0,rfl,fun W' _=>stat_zero W'⟩,yA.out⟩)
  case neg=>
  obtain⟨m,hm⟩:∃m:Nat,pv=m:=⟨pv.toNat,by omega⟩
  subst hm
  have UJ:Hid (batM s m=(folM s m,((cntM (momR s.was) (momR s.now) ((waitE s).take m):Nat):Int),0)):=by simp only[Hid];rw[sU.out];simp[batC,hr,hc]
  have cU:(s.cur==0)=false:=by simpa using hc
  have q5:=spec_l06Copy s _ B w1 (dQ.below aj) ok
  obtain⟨x0,x1,x2,x3,x4,x5,x6,_,x8,x9⟩:=A1.ten
  go_wp2_with fail
  refine hI.mono ?_
  rintro q w2 ⟨rfl,rfl⟩
  clear hI sU
  go_wp2_with fail
  refine q5.mono ?_
  rintro q w2 iB
  obtain⟨a1,a2,a3,a4,a5,a6,a8,a9,c1,c2,c3,c4,c5,c6,c8,c9,rfl,pP,sq,FC,BJ⟩:=iB.ex
  have ac:=iB.bel
  have b3:=qal w2 (.cells (stA s a1 a2 a3 a4 a5 a6 a8 a9 c1 c2 c3 c4 c5 c6 c8 c9).toArray 40)
  have n9:=qtr ac b3
  have q6:=jd1 s.vs (some (ad va 0)) s.vs.length s.vs.length _ ((hV.below aj).below n9) rfl (by omega)
  have A3:=A1.below n9
  have y8:=A3.c 8 rfl
  have eS:(w2.alloc (.cells (stA s a1 a2 a3 a4 a5 a6 a8 a9 c1 c2 c3 c4 c5 c6 c8 c9).toArray 40)).heap[w2.heap.size]? =some (.cells (stA s a1 a2 a3 a4 a5 a6 a8 a9 c1 c2 c3 c4 c5 c6 c8 c9).toArray 40 (0,0)):=heap_alloc_new w2 _
  have aF:=ac.size
  obtain⟨g,hg⟩:=qeb w2.heap.size
  clear x0 x1 x2 x3 x4 x5 x6 x7 x8 x9 q5 iB
  go_wp2_with fail
  refine q6.mono ?_
  rintro q w4 ⟨lv,rfl,dX,aD⟩
  have Rb:=qtr b3 aD
  have S4:BatS s w w4 (stO s a b c d e f va ia) [iv 0,nS,nS,nS,nS,nS,nS,iv 0,nS,nS,iv 0,iv 0] g (stA (atC s (curM s.cur [])) a1 a2 a3 a4 a5 a6 a8 a9 c1 c2 c3 c4 c5 c6 c8 c9) (.agg #[.slice a1 s.now.rules.length c1,.slice a2 s.now.zones.length c2,.slice a3 s.now.links.length c3]) (.agg #[.slice a4 s.was.rules.length c4,.slice a5 s.was.zones.length c5,.slice a6 s.was.links.length c6]) (.slice a8 s.vs.length c8) (.slice a9 s.ix.length c9) lv:=⟨A3.below aD,(R1.below n9).below aD,by rw[<- hg];exact(aD.block _ (heap_lt eS)).trans eS,(pP.mono aH).below Rb,(sq.mono aH).below Rb,jaj (jac FC Rb) aH,jaj (jac BJ Rb) aH,jaj dX (by have:=b3.size;omega),by omega,aj.trans ((qtr n9 aD).mono aj.size)⟩
  obtain⟨pl,cl,rfl,eG⟩:=jkx dX
  obtain⟨N,hN⟩:=qeb ((jan s.vs).length)
  have KC:=hidP (And.intro UY Va)
  rw[hN]at S4 p6 eG ⊢
  have yV:=hidP S4
  have HN:=hidP hN
  clear A3 y8 eS dX aD Rb pP sq FC BJ ac b3 n9 aj A1 R1 q6 S4 aH aF hv UY Va hN
  clear hg
  go_wp2
  go_loopw [7,8,9,10,11,12,13,14] (fun s7 s8 s9 mY _ _ _ _ wr=>∃(i:Nat) (D:List EventD),i<=N/\mY=iv i/\s9=.bool false/\s8=iv D.length/\s7=iv (cntM (momR s.was) (momR s.now) D)/\D.length<=m/\D.length<=i/\Hid (D=((jan s.vs).take i).filter (waitB s.cur))/\Hid (BatS s w wr (stO s a b c d e f va ia) [iv 0,nS,nS,nS,nS,nS,nS,iv 0,nS,nS,iv 0,iv 0] g (stA (atC s (curM s.cur D)) a1 a2 a3 a4 a5 a6 a8 a9 c1 c2 c3 c4 c5 c6 c8 c9) (.agg #[.slice a1 s.now.rules.length c1,.slice a2 s.now.zones.length c2,.slice a3 s.now.links.length c3]) (.agg #[.slice a4 s.was.rules.length c4,.slice a5 s.was.zones.length c5,.slice a6 s.was.links.length c6]) (.slice a8 s.vs.length c8) (.slice a9 s.ix.length c9) (.slice pl N cl))) (fun _ _ _ mY _ _ _ _ _=>N-(intOf mY).toNat)
  case atStart=>exact⟨0,[],by omega,rfl,rfl,rfl,rfl,by simp,by simp,rfl,yV⟩
  case round=>
   obtain⟨wa,dS⟩:=qea wr
   subst dS
   obtain⟨i,D,hi,rfl,rfl,rfl,rfl,UX,Vt,Yq,HS⟩:=hrel
   clear yV
   have uQ:cntM (momR s.was) (momR s.now) D<=D.length:=List.length_filter_le _ _
   by_cases hlt:i<N
   rotate_left
   -- all have Vg TU
   have I7:Hid (D=waitE s/\(waitE s).length<=m):=by
    have h:D=waitE s:=by rw[Yq.out,List.take_of_length_le (by rw[HN.out];omega)];rfl
    exact⟨h,h ▸ UX⟩
   have S:=HS.out
   have V:=varC_of S.var
   obtain⟨v0,v1,v2,v3,v4,v5,v6,v7,v8,v9⟩:=V.ten
   obtain⟨g0,g1,g2,g3,g4,g5,g6,g7,g8,g9⟩:=V.tenF
   have S5:=(((S.set 7 (iv 0)).set 4 nS).set 5 nS).set 6 nS
   obtain⟨wb,mQ⟩:=qeb ((((wa.setCell (ad g 7) (iv 0)).setCell (ad g 4) nS).setCell (ad g 5) nS).setCell (ad g 6) nS)
   rw[mQ]at S5
   have HT:Hid (∃s2 d4 d5 d6 e4 e5 e6,BatS s2 w wb (stO s a b c d e f va ia) [iv 0,nS,nS,nS,nS,nS,nS,iv 0,nS,nS,iv 0,iv 0] g (stA s2 a1 a2 a3 d4 d5 d6 a8 a9 c1 c2 c3 e4 e5 e6 c8 c9) (.agg #[.slice a1 s2.now.rules.length c1,.slice a2 s2.now.zones.length c2,.slice a3 s2.now.links.length c3]) (.agg #[.slice d4 s2.was.rules.length e4,.slice d5 s2.was.zones.length e5,.slice d6 s2.was.links.length e6]) (.slice a8 s2.vs.length c8) (.slice a9 s2.ix.length c9) (.slice pl N cl)/\Zr s2/\relB s2.now=true/\relB s2.was=true/\s2.vs.length<=1000/\(jan s2.vs).length<=1000/\(∀x∈jan s2.vs,EvR x)/\folM s m=⟨s2.tx,s2.now,s2.was,s2.cur,s2.vs,entF (momS s2) (jan s2.vs)⟩):=⟨setS s,none,none,none,0,0,0,⟨S5.par,S5.res,S5.var,S5.now,rel0_from _ _,S5.vs,S5.ix,S5.live,S5.ge,S5.bel⟩,⟨ok.now,rel0_ok,ok.vs,ok.vl,ok.xl⟩,p1,rel0_right,by show s.vs.length<=1000;omega,by show(jan s.vs).length<=1000;rw[HN.out];omega,fun x hx=>(dZ.out x hx).1,by unfold folM;rw[show stB s m=setS s from if_pos I7.out.2];rfl⟩
   have TD:Hid (cntM (momR s.was) (momR s.now) ((waitE s).take m)=cntM (momR s.was) (momR s.now) D):=by simp only[Hid];rw[List.take_of_length_le I7.out.2, <- I7.out.1]
   have hlt2:¬(i:Int)<(N:Int):=by omega
   clear S V S5 HS I7
   rotate_left
   -- one is to be TU
   obtain⟨x,hx⟩:∃x,(jan s.vs)[i]? =some x:=⟨_,lgg (by rw[HN.out];exact hlt)⟩
   obtain⟨gl,rfl⟩:=eG (by omega)
   have S:=HS.out
   obtain⟨c0,NQ,Ir,xD,NS,NT⟩:=jf0 S.live hx
   have x7:=S.par.c 7 rfl
   obtain⟨Ve,Vo⟩:=dZ.out x (lmg hx)
   have i0:(0:Int)<=(i:Int):=by omega
   have i1:(i:Int)<(N:Int):=by omega
   by_cases hw:x.id<s.cur
   ·have Hi:Hid (D=((jan s.vs).take (i+1)).filter (waitB s.cur)):=by simp only[Hid];rw[filt_no hx (by simp[waitB,hw])];exact Yq.out
    have q1:decide (x.id<s.cur)=true:=dte hw
    clear hx S
    go_wp2_with fail
    go_quiet (fail)
    go_wp2
    go_roundw
    case rel=>exact⟨i+1,D,by omega,by go_num,rfl,rfl,rfl,UX,by omega,Hi,HS.out.below (blN wa nq)⟩
    case measure=>simp[intOf];omega
   have q1:decide (x.id<s.cur)=false:=dfe hw
   have KX:waitB s.cur x=true:=by simp[waitB,hw]
   by_cases hd:D.length=m
   rotate_left
   ·have Hi:Hid (D++[x]=((jan s.vs).take (i+1)).filter (waitB s.cur)):=by simp only[Hid];rw[filt_yes hx KX, <- Yq.out]
    have q2:((D.length:Int)==(m:Int))=false:=by simp;omega
    obtain⟨P,hP⟩:=qeb (momR s.was x)
    obtain⟨Q,hQ⟩:=qeb (momR s.now x)
    have Oq:=hidP (cntM_add (momR s.was) (momR s.now) D x)
    rw[hP,hQ]at Oq
    have UH:=hidP (curM_add s.cur D x)
    have KS:IntKind.i64.wrap (x.id+1)=x.id+1:=by rw[IntKind.wrap_i64];omega
    have se:=fun W (h:Bw w W)=>spec_l06Instant s.was _ x W (KC.out.2.below h).rel ok.was p2 Ve hP
    have nX:=fun W (h:Bw w W)=>spec_l06Instant s.now _ x W (KC.out.1.below h).rel ok.now p1 Ve hQ
    simp only[EventD.v]at se nX
    clear hP hQ Yq
    go_wp2_with fail
    go_quiet (fail)
    go_wp2_with fail
    have S2:=S.below (blN wa nq)
    clear HS S c0 NQ Ir xD NS NT x7
    generalize wa.drewN nq=wb at *
    have S3:=S2.below (jab wb)
    obtain⟨d0,d1,d2,d3,d4,d5⟩:=jf0 S3.live hx
    have y4:=S3.par.c 4 rfl
    have y5:=S3.par.c 5 rfl
    have y6:=S3.par.c 6 rfl
    have UZ:=se _ S3.bel
    have yU:=hidP S3
    clear S2 S3 se
    obtain⟨P1,P2⟩:=P
    obtain⟨Q1,Q2⟩:=Q
    go_region_held3 (fun w'=>w'.cell? (ad w.heap.size 4)=some (so d s.was.rules.length s.was.rules.length)/\w'.cell? (ad w.heap.size 5)=some (so e s.was.zones.length s.was.zones.length)/\w'.cell? (ad w.heap.size 6)=some (so f s.was.links.length s.was.links.length)/\w'.cell? (ad gl (i*6))=some (iv x.id)/\w'.cell? (ad gl (i*6+1))=some (.string x.name)/\w'.cell? (ad gl (i*6+2))=some (.string x.zone)/\w'.cell? (ad gl (i*6+3))=some (iv x.wall)/\w'.cell? (ad gl (i*6+4))=some (iv x.gap)/\w'.cell? (ad gl (i*6+5))=some (iv x.fold)) (go_keep) ((go_at_call 20;refine UZ.mono ?_;rintro q wc ⟨rfl,ww⟩;have u4:=jaa ww y4;have u5:=jaa ww y5;have u6:=jaa ww y6;have t0:=jaa ww d0;have t1:=jaa ww d1;have t2:=jaa ww d2;have t3:=jaa ww d3;have t4:=jaa ww d4;have t5:=jaa ww d5))
    have S5:=(yU.out.below ww).below (jab wc)
    clear UZ yU d0 d1 d2 d3 d4 d5 y4 y5 y6 u4 u5 u6 t0 t1 t2 t3 t4 t5 ww
    obtain⟨d0,d1,d2,d3,d4,d5⟩:=jf0 S5.live hx
    have y1:=S5.par.c 1 rfl
    have y2:=S5.par.c 2 rfl
    have y3:=S5.par.c 3 rfl
    have V8:=nX _ S5.bel
    have Eu:=hidP S5
    clear S5 nX
    go_wp2_with fail
    go_region_held3 (fun w'=>w'.cell? (ad w.heap.size 1)=some (so a s.now.rules.length s.now.rules.length)/\w'.cell? (ad w.heap.size 2)=some (so b s.now.zones.length s.now.zones.length)/\w'.cell? (ad w.heap.size 3)=some (so c s.now.links.length s.now.links.length)/\w'.cell? (ad gl (i*6))=some (iv x.id)/\w'.cell? (ad gl (i*6+1))=some (.string x.name)/\w'.cell? (ad gl (i*6+2))=some (.string x.zone)/\w'.cell? (ad gl (i*6+3))=some (iv x.wall)/\w'.cell? (ad gl (i*6+4))=some (iv x.gap)/\w'.cell? (ad gl (i*6+5))=some (iv x.fold)) (go_keep) ((go_at_call 20;refine V8.mono ?_;rintro q wd ⟨rfl,ou⟩;have u1:=jaa ou y1;have u2:=jaa ou y2;have u3:=jaa ou y3;have t0:=jaa ou d0;have t1:=jaa ou d1;have t2:=jaa ou d2;have t3:=jaa ou d3;have t4:=jaa ou d4;have t5:=jaa ou d5))
    have S6:=Eu.out.below ou
    have S7:=S6.set 7 (iv (x.id+1))
    have v7:=(varC_of S6.var).c 7 rfl
    have f7:=(varC_of S6.var).f 7 rfl
    have UK:=hidP S7
    have FQ:IntKind.i64.wrap (((cntM (momR s.was) (momR s.now) D:Nat):Int)+1)=((cntM (momR s.was) (momR s.now) D:Nat):Int)+1:=by rw[IntKind.wrap_i64];omega
    clear Eu V8 S6 S7 d0 d1 d2 d3 d4 d5 y1 y2 y3 u1 u2 u3 t1 t2 t3 t4 t5 ou hx
    by_cases fZ:P1=Q1
    ·subst fZ
     cases P2<;>cases Q2
     all_goals
      go_wp2
      go_roundw
      case rel=>exact⟨i+1,D++[x],by omega,by go_num,rfl,by simp,by rw[Oq.out];simp[difB],by simp;omega,by simp;omega,Hi,by rw[UH.out];exact UK⟩
      case measure=>simp[intOf];omega
    ·have Vl:(P1==Q1)=false:=by simpa using fZ
     cases P2<;>cases Q2
     all_goals
      go_wp2
      go_roundw
      case rel=>exact⟨i+1,D++[x],by omega,by go_num,rfl,by simp,by rw[Oq.out];simp[difB,fZ],by simp;omega,by simp;omega,Hi,by rw[UH.out];exact UK⟩
      case measure=>simp[intOf];omega
   rotate_left
   have hF:=filt_full (m:=m) hx KX (by rw[<- Yq.out];exact hd)
   have TD:Hid (cntM (momR s.was) (momR s.now) ((waitE s).take m)=cntM (momR s.was) (momR s.now) D):=by simp only[Hid];rw[show(waitE s).take m=D from hF.1.trans Yq.out.symm]
   have UI:Hid (stB s m=atC s (curM s.cur D)):=by
    simp only[Hid]
    have h1:(waitE s).take m=D:=hF.1.trans Yq.out.symm
    have h2:D≠[]:=fun h=>by rw[h]at hd;simp at hd;omega
    unfold stB atC curM
    rw[if_neg (show ¬(waitE s).length<=m from hF.2),if_neg h2,h1]
   have q2:((D.length:Int)==(m:Int))=true:=by simp;omega
   case' pos=>
    go_wp2_with fail
    go_quiet (fail)
    have S5:=HS.out.below (blN wa nq)
    generalize wa.drewN nq=wb at *
   have HT:Hid (∃s2 d4 d5 d6 e4 e5 e6,BatS s2 w wb (stO s a b c d e f va ia) [iv 0,nS,nS,nS,nS,nS,nS,iv 0,nS,nS,iv 0,iv 0] g (stA s2 a1 a2 a3 d4 d5 d6 a8 a9 c1 c2 c3 e4 e5 e6 c8 c9) (.agg #[.slice a1 s2.now.rules.length c1,.slice a2 s2.now.zones.length c2,.slice a3 s2.now.links.length c3]) (.agg #[.slice d4 s2.was.rules.length e4,.slice d5 s2.was.zones.length e5,.slice d6 s2.was.links.length e6]) (.slice a8 s2.vs.length c8) (.slice a9 s2.ix.length c9) (so gl N cl)/\Zr s2/\relB s2.now=true/\relB s2.was=true/\s2.vs.length<=1000/\(jan s2.vs).length<=1000/\(∀x∈jan s2.vs,EvR x)/\folM s m=⟨s2.tx,s2.now,s2.was,s2.cur,s2.vs,entF (momS s2) (jan s2.vs)⟩):=⟨atC s (curM s.cur D),a4,a5,a6,c4,c5,c6,⟨S5.par,S5.res,S5.var,S5.now,S5.was,S5.vs,S5.ix,S5.live,S5.ge,S5.bel⟩,⟨ok.now,ok.was,ok.vs,ok.vl,ok.xl⟩,p1,p2,by show s.vs.length<=1000;omega,by show(jan s.vs).length<=1000;rw[HN.out];omega,fun x hx=>(dZ.out x hx).1,by unfold folM;rw[UI.out];rfl⟩
   clear S5 S HS hF UI hx c0 NQ Ir xD NS NT x7 KX
   all_goals
    have hT:=HT.out
    clear HT
    obtain⟨s2,d4,d5,d6,e4,e5,e6,T,kS,r1,r2,l1,l2,TM,hF⟩:=hT
    have V:=varC_of T.var
    obtain⟨z0,z1,z2,z3,z4,z5,z6,z7,z8,z9⟩:=V.ten
    have hQ:=jh5 s2 _ wb ⟨a1,a2,a3,d4,d5,d6,a8,a9,c1,c2,c3,e4,e5,e6,c8,c9,rfl,T.now.at,T.was.at,(ver_rowB T.vs).1,(ent_rowO T.ix).1,(ver_rowB T.vs).2,(ent_rowO T.ix).2⟩ kS r1 r2 l1 l2 TM
    have HT:=hidP T
    have HF:=hidP hF
    generalize entF (momS s2) (jan s2.vs)=EE at *
    clear V T hF
    go_wp2_with fail
    refine hQ.mono ?_
    rintro q w6 ⟨x6,rfl,fV,hb6⟩
    obtain⟨px,cx,rfl⟩:=own_shape2 fV
    have S6:=HT.out.below hb6
    have S7:=S6.set 9 (.slice px EE.length cx)
    have V6:=varC_of S6.var
    have l6:=hb6.size
    have lg:=heap_lt HT.out.var
    have cj:=own_far (g:=g) (j:=9) (u:=.slice px EE.length cx) fV lg
    have K7:=HT.out.ge
    have p9:w6.cell? (ad g 9)=some (.slice a9 s2.ix.length c9):=V6.c 9 rfl
    have Sb:w6.frozen? (ad g 9)=false:=V6.f 9 (u:=.slice a9 s2.ix.length c9) rfl
    obtain⟨w7,yk⟩:=qeb (w6.setCell (ad g 9) (.slice px EE.length cx))
    rw[yk]at S7 cj
    have V7:Zh w7 g (stA ⟨s2.tx,s2.now,s2.was,s2.cur,s2.vs,EE⟩ a1 a2 a3 d4 d5 d6 a8 px c1 c2 c3 e4 e5 e6 c8 cx):=varC_of S7.var
    have R7:=S7.res
    obtain⟨k0,k1,k2,k3,k4,k5,k6,k7,k8,k9⟩:=V7.ten
    obtain⟨r0,VD,VE,r3,r4,r5,r6,r7,r8,r9,SN,SO⟩:=R7.twC
    obtain⟨f0,f1,f2,f3,f4,f5,f6,f7,f8,f9,SJ,SK⟩:=R7.twF
    obtain⟨W8,RM,⟨t0,t1,t2,t3,t4,t5,t6,t7,t8,t9,wJ,Qy⟩,T8,_,J8⟩:=R7.fin (iv s2.tx) (.slice a1 s2.now.rules.length c1) (.slice a2 s2.now.zones.length c2) (.slice a3 s2.now.links.length c3) (.slice d4 s2.was.rules.length e4) (.slice d5 s2.was.zones.length e5) (.slice d6 s2.was.links.length e6) (iv s2.cur) (.slice a8 s2.vs.length c8) (.slice px EE.length cx) (iv ((cntM (momR s.was) (momR s.now) D:Nat):Int)) (iv 0)
    have yA:=hidP (J8 _ _ (by omega) S7.bel)
    have SQ:Hid (StFrom w.heap.size W8 (.agg (stA ⟨s2.tx,s2.now,s2.was,s2.cur,s2.vs,EE⟩ a1 a2 a3 d4 d5 d6 a8 px c1 c2 c3 e4 e5 e6 c8 cx).toArray) ⟨s2.tx,s2.now,s2.was,s2.cur,s2.vs,EE⟩):=fun W' hW=>by
     have RT:=T8.size
     have YO:∀k,w.heap.size+1+1<=k->k<w7.heap.size->W'.heap[k]? =w7.heap[k]? :=fun k h1 h2=>(hW k (by omega) (by omega)).trans (T8.block k h2 (show k≠w.heap.size+1 by omega))
     have Ck:=(S7.now.keep fun k cs t _ h1 h2=>(YO k (by omega) (heap_lt h2)).trans h2).at
     have Rp:=(S7.was.keep fun k cs t _ h1 h2=>(YO k (by omega) (heap_lt h2)).trans h2).at
     have ej:=ver_rowB (own_agree S7.vs fun k cs h1 h2=>(YO k (by omega) (heap_lt h2)).trans h2)
     have Yw:=ent_rowO (own_agree cj fun k cs h1 h2=>(YO k (by omega) (heap_lt h2)).trans h2)
     exact⟨a1,a2,a3,d4,d5,d6,a8,px,c1,c2,c3,e4,e5,e6,c8,cx,rfl,Ck,Rp,ej.1,Yw.1,ej.2,Yw.2⟩
    have Vf:Hid (batM s m=(⟨s2.tx,s2.now,s2.was,s2.cur,s2.vs,EE⟩,((cntM (momR s.was) (momR s.now) D:Nat):Int),0)):=by simp only[Hid];rw[UJ.out,HF.out,TD.out]
    clear hQ fV hb6 S6 S7 V6 V7 R7 T8 cj HT J8 HF TD UJ
    go_wp2
    exact bpr (v:=.agg (outA ⟨s2.tx,s2.now,s2.was,s2.cur,s2.vs,EE⟩ a1 a2 a3 d4 d5 d6 a8 px c1 c2 c3 e4 e5 e6 c8 cx ((cntM (momR s.was) (momR s.now) D:Nat):Int) 0).toArray) (by simp[results,Tryz.results5,go_sem,t0,t1,t2,t3,t4,t5,t6,t7,t8,t9,wJ,Qy,outA]) rfl (by rw[Vf.out];exact⟨⟨a1,a2,a3,d4,d5,d6,a8,px,c1,c2,c3,e4,e5,e6,c8,cx,rfl,SQ.out⟩,yA.out⟩)
end
theorem res_none(l:List TurnD)(n g f:Int):(resD l n g f).2≠0->(resD l n g f).1=0:=by
 have hT:∀z:Int,(jh0 z).2≠0->(jh0 z).1=0:=fun z=>by unfold jh0;split<;>simp
 unfold resD resR gapR jhl
 repeat' split
 all_goals first|exact hT _|simp
theorem mom_none(r:RelD)(e:EventD)(h:(momD r e).2=false):(momD r e).1=0:=by
 unfold momD momT at *
 split at h
 ·rename_i h1
  rw[if_pos h1]
  exact res_none _ _ _ _ (of_decide_eq_false h)
 ·rename_i h1
  rw[if_neg h1]
theorem dif_is{p q:Int × Bool}(hp:p.2=false->p.1=0)(hq:q.2=false->q.1=0):difB p q= !decide (p=q):=by
 obtain⟨a,b⟩:=p
 obtain⟨c,d⟩:=q
 cases b<;>cases d<;>simp_all [difB]
 rw[bne,Bool.beq_eq_decide_eq]
theorem mom_is{r:RelD}{e:EventD}(h:relB r=true)(hi:inR r e.zone=true)(hz:e.zone.size<=8000):momR r e=momD r e:=by unfold momR momD;rw[jlk h hi hz]
theorem zone_in{s:StoreD}{z:ByteArray}(h:jdv s z=true):inR s.now z=true/\(s.cur≠0->inR s.was z=true):=by
 unfold jdv at h
 simp only[bat,Bool.or_eq_true,decide_eq_true_eq]at h
 exact⟨h.1,fun hc=>h.2.resolve_left hc⟩
theorem wait_in{s:StoreD}{e:EventD}{m:Nat}(h:e∈(waitE s).take m):e∈jan s.vs:=(List.mem_filter.mp (List.mem_of_mem_take h)).1
theorem cnt_same{s:StoreD}(R:RightS s)(hc:s.cur≠0)(m:Nat):cntM (momR s.was) (momR s.now) ((waitE s).take m)=cntE (momD s.was) (momD s.now) ((waitE s).take m):=by
 unfold cntM cntE
 rw[List.filter_congr fun e he=>?_]
 have hl:=wait_in he
 obtain⟨h1,h2⟩:=zone_in (R.zone e hl)
 rw[mom_is R.was (h2 hc) (R.ev hl).zone,mom_is R.now h1 (R.ev hl).zone]
 exact dif_is (mom_none _ _) (mom_none _ _)
theorem fol_same{s:StoreD}(R:RightS s)(hc:s.cur≠0)(m:Nat):folM s m=folS s m:=by
 unfold folM folS
 rw[jo6 fun e he=>?_]
 obtain⟨h1,h2⟩:=zone_in (R.zone e he)
 unfold stB
 split
 ·exact jzf R.now rel0_right (by unfold jdv setS;simp[h1]) (R.ev he).zone
 ·exact jzf R.now R.was (by unfold jdv;simp[h1,h2 hc]) (R.ev he).zone
theorem bat_none{s:StoreD}{pv:Int}(h:batC s pv=none):s.cur≠0:=by
 unfold batC at h
 split at h
 ·split at h
  ·cases h
  ·assumption
 ·cases h
theorem bat_same(s:StoreD)(pv:Int):batM s pv=batD s pv:=by
 unfold batM batD
 rw[<- jkt]
 by_cases hs:storeS s=true
 ·have R:=rightS hs
  rw[if_pos hs,if_pos hs]
  cases hb:batC s pv with
  |some c=>rfl
  |none=>
   have hc:=bat_none hb
   unfold folN
   simp only[fol_same R hc,cnt_same R hc]
 ·rw[if_neg hs,if_neg hs]
theorem bat_spec(s:StoreD)(v:Value)(pv:Int)(B:Nat)(w:World)(hv:OwnSt w B v s)(ok:Zr s):
  Cl 5 #[v,iv pv] w (OutM (batD s pv).1 (batD s pv).2.1 (batD s pv).2.2 w):=by
 rw[<- bat_same]
 refine spec_Batch s v pv B w hv ok (fun h=>?_) (fun h e he=>⟨(rightS h).ev he,?_⟩)
 ·have R:=rightS h
  exact⟨R.now,R.was,R.vl,R.ll⟩
 ·obtain⟨u,hu,rfl⟩:=jl5 he
  exact j23 (store_parts (jkt s ▸ h)).2.2.1 u hu
theorem bat_is(s:StoreD)(pv:Int):(batD s pv).1=zeroS\/∃m,storeI s=true/\(batD s pv).1=folS s m:=by
 unfold batD
 by_cases hs:storeI s=true
 ·rw[if_pos hs]
  cases batC s pv with
  |some c=>exact .inl rfl
  |none=>exact .inr ⟨_,hs,rfl⟩
 ·rw[if_neg hs];exact .inl rfl
theorem stB_was(s:StoreD)(m:Nat):(stB s m).was=⟨[],[],[]⟩\/(stB s m).was=s.was:=by
 unfold stB
 split
 ·exact .inl rfl
 ·exact .inr rfl
theorem bat_sz(s:StoreD)(pv:Int):(batD s pv).1.now.sz<=s.now.sz/\(batD s pv).1.was.sz<=s.was.sz:=by
 rcases bat_is s pv with h|⟨m,_,h⟩
 ·rw[h];exact⟨Nat.zero_le _,Nat.zero_le _⟩
 ·rw[h]
  refine⟨nlr _,?_⟩
  show(stB s m).was.sz<=_
  rcases stB_was s m with e|e
  ·rw[e];exact Nat.zero_le _
  ·rw[e];exact nlr _
theorem bat_ok{s:StoreD}(ok:Zr s)(pv:Int):Zr (batD s pv).1:=by
 rcases bat_is s pv with h|⟨m,hs,h⟩
 ·rw[h];exact zero_ok
 ·rw[h]
  refine⟨ok.now,?_,ok.vs,ok.vl,Nat.le_trans (jep _ _) (Nat.le_trans (store_parts hs).2.2.2 (by omega))⟩
  show Jk (stB s m).was
  rcases stB_was s m with e|e
  ·rw[e];exact rel0_ok
  ·rw[e];exact ok.was
