import Derived.Test.YtpejeokacilebaaGreatDoorSGd
import Derived.Test.YtpejeokacilebaaGreatDoorSLd
set_option maxRecDepth 100000
set_option maxHeartbeats 0
set_option linter.unusedSimpArgs false
namespace Go.Proofs.YtpejeokacilebaaGreatDoor
section
open Go.RowKit Go.ChangeMaps Go.MapKept Go.WideMaps
def momD(r:RelD)(e:EventD):Int × Bool:=momT (tabD r (jao r e.zone).name) e
def momB(s:StoreD)(e:EventD):Int × Bool:=if s.cur=0\/e.id<s.cur then momD s.now e else momD s.was e
structure Zl(X:List (Nat × Value))(w0 w:World)(s:StoreD)(bb lb nm wm nn wn:Nat)(a b c d e f:Option Addr)(ca cb cc cd ce cf:Nat):Prop where
 bel:Bw w0 w
 cur:w.cell? (ad bb 7)=some (iv s.cur)
 live:w.cell? (ad bb 10)=some (.map (some lb))
 n0:w.cell? (ad bb 11)=some (.slice a s.now.rules.length ca)
 n1:w.cell? (ad bb 12)=some (.slice b s.now.zones.length cb)
 n2:w.cell? (ad bb 13)=some (.slice c s.now.links.length cc)
 n3:w.cell? (ad bb 14)=some (.map (some nm))
 w1:w.cell? (ad bb 15)=some (.slice d s.was.rules.length cd)
 w2:w.cell? (ad bb 16)=some (.slice e s.was.zones.length ce)
 w3:w.cell? (ad bb 17)=some (.slice f s.was.links.length cf)
 w4:w.cell? (ad bb 18)=some (.map (some wm))
 cn:Zi w nm nn s.now
 cw:Zi w wm wn s.was
 ne:nm≠wm
 bn:w0.heap.size<=nm
 bw:w0.heap.size<=wm
 more:∀p∈X,w.cell? (ad bb p.1)=some p.2
 blk:∃cs,w.heap[bb]? =some (.cells cs 115 (0,0))
theorem Zl.below{X:List (Nat × Value)}{w0 w w':World}{s:StoreD}{bb lb nm wm nn wn:Nat}{a b c d e f:Option Addr}{ca cb cc cd ce cf:Nat}(h:Zl X w0 w s bb lb nm wm nn wn a b c d e f ca cb cc cd ce cf)(hb:Bw w w'):Zl X w0 w' s bb lb nm wm nn wn a b c d e f ca cb cc cd ce cf:=
 ⟨h.bel.trans (hb.mono h.bel.size),jaa hb h.cur,jaa hb h.live,jaa hb h.n0,jaa hb h.n1,jaa hb h.n2,jaa hb h.n3,jaa hb h.w1,jaa hb h.w2,jaa hb h.w3,jaa hb h.w4,h.cn.below hb,h.cw.below hb,h.ne,h.bn,h.bw,fun p hp=>jaa hb (h.more p hp),by
  obtain⟨cs,h1⟩:=h.blk
  exact⟨cs,(hb.block bb (qbl h.cur)).trans h1⟩⟩
theorem Zl.ne_n{X:List (Nat × Value)}{w0 w:World}{s:StoreD}{bb lb nm wm nn wn:Nat}{a b c d e f:Option Addr}{ca cb cc cd ce cf:Nat}(h:Zl X w0 w s bb lb nm wm nn wn a b c d e f ca cb cc cd ce cf):bb≠nm:=fun he=>by(have:=h.cn.cell 7;rw[<- he,h.cur]at this;cases this)
theorem Zl.ne_w{X:List (Nat × Value)}{w0 w:World}{s:StoreD}{bb lb nm wm nn wn:Nat}{a b c d e f:Option Addr}{ca cb cc cd ce cf:Nat}(h:Zl X w0 w s bb lb nm wm nn wn a b c d e f ca cb cc cd ce cf):bb≠wm:=fun he=>by(have:=h.cw.cell 7;rw[<- he,h.cur]at this;cases this)
theorem bel_grownB{w0 w w':World}{g:Nat}(h:Bw w0 w)(hg:w.grownBy w' (some g))(hb:w0.heap.size<=g):Bw w0 w':=h.grown hg h.size (fun k hk=>by injection hk with hk;omega)
theorem Zl.grown{X:List (Nat × Value)}{w0 w w':World}{g:Nat}{s:StoreD}{bb lb nm wm nn wn:Nat}{a b c d e f:Option Addr}{ca cb cc cd ce cf:Nat}(h:Zl X w0 w s bb lb nm wm nn wn a b c d e f ca cb cc cd ce cf)(hg:w.grownBy w' (some g))(hb:w0.heap.size<=g)(h1:bb≠g)(h2:nm≠g)(h3:wm≠g)(az:∀cs,w.heap[g]? ≠some (.cells cs 167 (0,0))):Zl X w0 w' s bb lb nm wm nn wn a b c d e f ca cb cc cd ce cf:=by
 have k:some bb≠some g:=by simpa using h1
 exact⟨bel_grownB h.bel hg hb,hg.cell h.cur k,hg.cell h.live k,hg.cell h.n0 k,hg.cell h.n1 k,hg.cell h.n2 k,hg.cell h.n3 k,hg.cell h.w1 k,hg.cell h.w2 k,hg.cell h.w3 k,hg.cell h.w4 k,h.cn.grown hg h2 az,h.cw.grown hg h3 az,h.ne,h.bn,h.bw,fun p hp=>hg.cell (h.more p hp) k,by
  obtain⟨cs,h1⟩:=h.blk
  exact⟨cs,(hg.block bb (qbl h.cur) k).trans h1⟩⟩
theorem jpc{w:World}{b n:Nat}{r:RelD}(h:Zi w b n r):∀cs,w.heap[b]? ≠some (.cells cs 167 (0,0)):=fun cs hc=>h.blk b cs hc rfl
theorem Zl.grew_n{X:List (Nat × Value)}{w0 w w':World}{s:StoreD}{bb lb nm wm nn wn:Nat}{a b c d e f:Option Addr}{ca cb cc cd ce cf:Nat}(h:Zl X w0 w s bb lb nm wm nn wn a b c d e f ca cb cc cd ce cf)(hg:w.grownBy w' (some nm))(hc:Zi w' nm (nn+1) s.now):Zl X w0 w' s bb lb nm wm (nn+1) (wn+1) a b c d e f ca cb cc cd ce cf:=by
 have k:some bb≠some nm:=by simpa using h.ne_n
 exact⟨bel_grownB h.bel hg h.bn,hg.cell h.cur k,hg.cell h.live k,hg.cell h.n0 k,hg.cell h.n1 k,hg.cell h.n2 k,hg.cell h.n3 k,hg.cell h.w1 k,hg.cell h.w2 k,hg.cell h.w3 k,hg.cell h.w4 k,hc,(h.cw.grown hg (Ne.symm h.ne) (jpc h.cn)).mono (by omega),h.ne,h.bn,h.bw,fun p hp=>hg.cell (h.more p hp) k,by
  obtain⟨cs,h1⟩:=h.blk
  exact⟨cs,(hg.block bb (qbl h.cur) k).trans h1⟩⟩
theorem Zl.grew_w{X:List (Nat × Value)}{w0 w w':World}{s:StoreD}{bb lb nm wm nn wn:Nat}{a b c d e f:Option Addr}{ca cb cc cd ce cf:Nat}(h:Zl X w0 w s bb lb nm wm nn wn a b c d e f ca cb cc cd ce cf)(hg:w.grownBy w' (some wm))(hc:Zi w' wm (wn+1) s.was):Zl X w0 w' s bb lb nm wm (nn+1) (wn+1) a b c d e f ca cb cc cd ce cf:=by
 have k:some bb≠some wm:=by simpa using h.ne_w
 exact⟨bel_grownB h.bel hg h.bw,hg.cell h.cur k,hg.cell h.live k,hg.cell h.n0 k,hg.cell h.n1 k,hg.cell h.n2 k,hg.cell h.n3 k,hg.cell h.w1 k,hg.cell h.w2 k,hg.cell h.w3 k,hg.cell h.w4 k,(h.cn.grown hg h.ne (jpc h.cw)).mono (by omega),hc,h.ne,h.bn,h.bw,fun p hp=>hg.cell (h.more p hp) k,by
  obtain⟨cs,h1⟩:=h.blk
  exact⟨cs,(hg.block bb (qbl h.cur) k).trans h1⟩⟩
structure BMomP(X:List (Nat × Value))(w0:World)(s:StoreD)(bb lb nm wm nn wn:Nat)(a b c d e f:Option Addr)(ca cb cc cd ce cf:Nat)(ev:EventD)(w:World)(q:Ending)(w':World):Prop where
 ex:q=.returned (.agg #[iv (momB s ev).1,.bool (momB s ev).2])
 book:Zl X w0 w' s bb lb nm wm (nn+1) (wn+1) a b c d e f ca cb cc cd ce cf
 grown:∃g,(g=nm\/g=wm)/\w.grownBy w' (some g)
theorem jrr{s:StoreD}{e:EventD}(h:s.cur=0\/e.id<s.cur):momB s e=momD s.now e:=if_pos h
theorem jzh{s:StoreD}{e:EventD}(h:¬(s.cur=0\/e.id<s.cur)):momB s e=momD s.was e:=if_neg h
theorem jcl(w:World)(n:Nat):Bw w (w.drewN n):=⟨rfl,rfl,rfl,nlr _,fun _ _=>rfl⟩
theorem jjg{X:List (Nat × Value)}(w0:World)(s:StoreD)(bb lb nm wm nn wn:Nat)(a b c d e f:Option Addr)(ca cb cc cd ce cf:Nat)(ev:EventD)(w:World)(hE:Zx w0)(hN:Zd w0 (.agg #[.slice a s.now.rules.length ca,.slice b s.now.zones.length cb,.slice c s.now.links.length cc]) s.now)(hW:Zd w0 (.agg #[.slice d s.was.rules.length cd,.slice e s.was.zones.length ce,.slice f s.was.links.length cf]) s.was)(ok:Jk s.now)(kS:Jk s.was)(hr:relB s.now=true)(dC:relB s.was=true)(hB:Zl X w0 w s bb lb nm wm nn wn a b c d e f ca cb cc cd ce cf)(mI:nn<=1048576)(vK:wn<=1048576):
  Cl 84 #[.pointer (some (ad bb 0)),ev.v] w (BMomP X w0 s bb lb nm wm nn wn a b c d e f ca cb cc cd ce cf ev w):=by
 have HB:=hid hB
 have b1:Bw w ((w.alloc (.cells #[iv ev.id,.string ev.name,.string ev.zone,iv ev.wall,iv ev.gap,iv ev.fold] 54)).alloc (.cells #[iv 0,.bool false] 180)):=(qal _ _).alloc (by simp) _
 have aj:=hB.below b1
 obtain⟨id,name,zone,wall,gap,fold⟩:=ev
 simp only[EventD.v]at *
 have iF:bb<w.heap.size:=qbl hB.cur
 have E0:Zh ((w.alloc (.cells #[iv id,.string name,.string zone,iv wall,iv gap,iv fold] 54)).alloc (.cells #[iv 0,.bool false] 180)) w.heap.size [iv id,.string name,.string zone,iv wall,iv gap,iv fold]:=(Zh.new w [iv id,.string name,.string zone,iv wall,iv gap,iv fold] 54).below (qal _ _)
 have R0:Zh ((w.alloc (.cells #[iv id,.string name,.string zone,iv wall,iv gap,iv fold] 54)).alloc (.cells #[iv 0,.bool false] 180)) (w.heap.size+1) [iv 0,.bool false]:=by have h:=Zh.new (w.alloc (.cells #[iv id,.string name,.string zone,iv wall,iv gap,iv fold] 54)) [iv 0,.bool false] 180;simpa using h
 have Ay:=jap b1
 have tX:((w.alloc (.cells #[iv id,.string name,.string zone,iv wall,iv gap,iv fold] 54)).alloc (.cells #[iv 0,.bool false] 180)).heap[w.heap.size+1]? =some (Obj.cells #[iv 0,.bool false] 180):=by
  have h:=heap_alloc_new (w.alloc (.cells #[iv id,.string name,.string zone,iv wall,iv gap,iv fold] 54)) (.cells #[iv 0,.bool false] 180)
  have e:(w.alloc (.cells #[iv id,.string name,.string zone,iv wall,iv gap,iv fold] 54)).heap.size=w.heap.size+1:=by simp
  rw[e]at h
  exact h
 have D5:¬bb=w.heap.size+1:=by omega
 have yo:¬w.heap.size+1=bb:=by omega
 have nd:=hB.ne_n
 have nw:=hB.ne_w
 have ln:=hB.cn.lt
 have lw:=hB.cw.lt
 have lE:∀W:World,Zl X w0 W s bb lb nm wm nn wn a b c d e f ca cb cc cd ce cf->Cl 117 #[.agg #[.slice a s.now.rules.length ca,.slice b s.now.zones.length cb,.slice c s.now.links.length cc,.map (some nm)],.agg #[iv id,.string name,.string zone,iv wall,iv gap,iv fold]] W (MomP s.now ⟨id,name,zone,wall,gap,fold⟩ nm nn W):=fun W h=>jfd s.now a b c ca cb cc nm nn ⟨id,name,zone,wall,gap,fold⟩ W (hE.of_below h.bel) (hN.below h.bel) ok hr h.cn mI
 have Ew:∀W:World,Zl X w0 W s bb lb nm wm nn wn a b c d e f ca cb cc cd ce cf->Cl 117 #[.agg #[.slice d s.was.rules.length cd,.slice e s.was.zones.length ce,.slice f s.was.links.length cf,.map (some wm)],.agg #[iv id,.string name,.string zone,iv wall,iv gap,iv fold]] W (MomP s.was ⟨id,name,zone,wall,gap,fold⟩ wm wn W):=fun W h=>jfd s.was d e f cd ce cf wm wn ⟨id,name,zone,wall,gap,fold⟩ W (hE.of_below h.bel) (hW.below h.bel) kS dC h.cw vK
 have Gi:=hid hB.bel.size
 clear hE hN hW ok kS hr dC hB
 have c7:=aj.cur
 have i0:=E0.c 0 rfl
 unfold Cl;go_in
 go_upto_region 1 with fail
 go_cut [20]from 5 to 19 (fun Py wx=>∃(bo:Bool) (nq:Nat),Py=.bool bo/\wx=((w.alloc (.cells #[iv id,.string name,.string zone,iv wall,iv gap,iv fold] 54)).alloc (.cells #[iv 0,.bool false] 180)).drewN nq/\Hid (momB s ⟨id,name,zone,wall,gap,fold⟩=if bo=true then momD s.now ⟨id,name,zone,wall,gap,fold⟩else momD s.was ⟨id,name,zone,wall,gap,fold⟩))
 case first=>
  by_cases h1:s.cur=0
  ·have HM:Hid (momB s ⟨id,name,zone,wall,gap,fold⟩=momD s.now ⟨id,name,zone,wall,gap,fold⟩):=jrr (.inl h1)
   rw[h1]at c7
   clear h1
   go_quiet (fail)
   go_wp2
   go_meet
   exact⟨true,nq,rfl,rfl,HM.out⟩
  obtain⟨cu,Ab⟩:=qeb s.cur
  by_cases h2:id<s.cur
  ·have HM:Hid (momB s ⟨id,name,zone,wall,gap,fold⟩=momD s.now ⟨id,name,zone,wall,gap,fold⟩):=jrr (.inr h2)
   rw[Ab]at c7 h1 h2
   have ET:(cu==0)=false:=by simp[h1]
   have tN:decide (id<cu)=true:=by simp;omega
   clear Ab h1 h2
   go_quiet (fail)
   go_wp2
   go_meet
   exact⟨true,nq,rfl,rfl,HM.out⟩
  ·have HM:Hid (momB s ⟨id,name,zone,wall,gap,fold⟩=momD s.was ⟨id,name,zone,wall,gap,fold⟩):=jzh (fun h=>h.elim h1 h2)
   rw[Ab]at c7 h1 h2
   have ET:(cu==0)=false:=by simp[h1]
   have tN:decide (id<cu)=false:=by simp;omega
   clear Ab h1 h2
   go_quiet (fail)
   go_wp2
   go_meet
   exact⟨false,nq,rfl,rfl,HM.out⟩
 case rest=>
  obtain⟨bo,nq,rfl,rfl,HM⟩:=hcut
  cases bo
  ·replace HM:Hid (momB s ⟨id,name,zone,wall,gap,fold⟩=momD s.was ⟨id,name,zone,wall,gap,fold⟩):=HM.out.trans (if_neg (by simp))
   go_wp2_with fail
   have an:=aj.below (jcl _ nq)
   have E2:=E0.below (jcl _ nq)
   have R2:=R0.below (jcl _ nq)
   have bR:=Ay.trans (jap (jcl _ nq))
   have oA:(((w.alloc (.cells #[iv id,.string name,.string zone,iv wall,iv gap,iv fold] 54)).alloc (.cells #[iv 0,.bool false] 180)).drewN nq).heap[w.heap.size+1]? =some (Obj.cells #[iv 0,.bool false] 180):=tX
   clear aj E0 R0 Ay c7 b1 tX
   generalize ((w.alloc (.cells #[iv id,.string name,.string zone,iv wall,iv gap,iv fold] 54)).alloc (.cells #[iv 0,.bool false] 180)).drewN nq=WA at *
   have bY:Zl X w0 WA.drew s bb lb nm wm nn wn a b c d e f ca cb cc cd ce cf:=an.below (jab WA)
   have ED:Zh WA.drew w.heap.size [iv id,.string name,.string zone,iv wall,iv gap,iv fold]:=E2
   have RD:Zh WA.drew (w.heap.size+1) [iv 0,.bool false]:=R2
   have wH:w.grownBy WA.drew none:=bR.trans (jap (jab WA))
   have PV:=bY.w1
   have Uw:=bY.w2
   have Ux:=bY.w3
   have Uy:=bY.w4
   have e0:=ED.c 0 rfl
   have e1:=ED.c 1 rfl
   have e2:=ED.c 2 rfl
   have e3:=ED.c 3 rfl
   have e4:=ED.c 4 rfl
   have e5:=ED.c 5 rfl
   have ti:=RD.c 0 rfl
   have xK:=RD.c 1 rfl
   have Cp:=RD.f 0 rfl
   have Cr:=RD.f 1 rfl
   have hC:=Ew _ bY
   have qs:=hid bY
   have Bp:=hid wH
   have HH:=hid oA
   clear oA
   clear an bY E2 R2 ED RD lE Ew bR wH HB
   obtain⟨M,rU⟩:=qeb (momT (tabD s.was (jao s.was zone).name) ⟨id,name,zone,wall,gap,fold⟩)
   have Bv:Hid (momD s.was ⟨id,name,zone,wall,gap,fold⟩=M):=(rU)
   have lx:Cl 117 #[.agg #[.slice d s.was.rules.length cd,.slice e s.was.zones.length ce,.slice f s.was.links.length cf,.map (some wm)],.agg #[iv id,.string name,.string zone,iv wall,iv gap,iv fold]] WA.drew fun q w'=>q=.returned (.agg #[iv M.1,.bool M.2])/\Zi w' wm (wn+1) s.was/\WA.drew.grownBy w' (some wm):=hC.mono fun q w' hP=>⟨by rw[hP.ex,rU],hP.cache,hP.grown⟩
   clear hC rU
   go_region_held3 (fun w'=>w'.cell? (ad bb 15)=some (.slice d s.was.rules.length cd)/\w'.cell? (ad bb 16)=some (.slice e s.was.zones.length ce)/\w'.cell? (ad bb 17)=some (.slice f s.was.links.length cf)/\w'.cell? (ad bb 18)=some (.map (some wm))/\w'.cell? (ad w.heap.size 0)=some (iv id)/\w'.cell? (ad w.heap.size 1)=some (.string name)/\w'.cell? (ad w.heap.size 2)=some (.string zone)/\w'.cell? (ad w.heap.size 3)=some (iv wall)/\w'.cell? (ad w.heap.size 4)=some (iv gap)/\w'.cell? (ad w.heap.size 5)=some (iv fold)) (go_keep) ((go_at_call 117;refine lx.mono ?_;rintro q w4 ⟨rfl,DY,cV⟩;have Tk:=cV.cell PV (by simp;omega);have UW:=cV.cell Uw (by simp;omega);have UX:=cV.cell Ux (by simp;omega);have UY:=cV.cell Uy (by simp;omega);have g0:=cV.cell e0 (by simp;omega);have g1:=cV.cell e1 (by simp;omega);have g2:=cV.cell e2 (by simp;omega);have g3:=cV.cell e3 (by simp;omega);have g4:=cV.cell e4 (by simp;omega);have g5:=cV.cell e5 (by simp;omega);have r0:=cV.cell ti (by simp;omega);have r1:=cV.cell xK (by simp;omega);have f0:=(cV.frozen_far (ad (w.heap.size+1) 0) (qbl ti) (by simp;omega)).trans Cp;have f1:=(cV.frozen_far (ad (w.heap.size+1) 1) (qbl xK) (by simp;omega)).trans Cr))
   all_goals
    have HP:Hid (BMomP X w0 s bb lb nm wm nn wn a b c d e f ca cb cc cd ce cf ⟨id,name,zone,wall,gap,fold⟩ w (.returned (.agg #[iv M.1,.bool M.2])) ((w4.setCell (ad (w.heap.size+1) 0) (iv M.1)).setCell (ad (w.heap.size+1) 1) (.bool M.2))):=by
     have k1:=qs.out.grew_w cV DY
     have G7:=jbz w4 (w.heap.size+1) (iv M.1) (.bool M.2)
     have Gw:w.grownBy ((w4.setCell (ad (w.heap.size+1) 0) (iv M.1)).setCell (ad (w.heap.size+1) 1) (.bool M.2)) (some wm):=((Bp.out.but _).andThen cV (fun _ h=>.inr h)).andThen G7 (fun j h=>by injection h with h;omega)
     refine⟨by rw[HM.out,Bv.out],?_,wm,.inr rfl,Gw⟩
     have KR:=k1.bel.size
     refine k1.grown G7 (by have:=Gi.out;omega) (by omega) (by omega) (by omega) (fun cs hc=>?_)
     rw[(cV.block _ (qbl ti) (by simp;omega)).trans HH.out]at hc
     injection hc with hc
     injection hc with _ hc _
     exact absurd hc (by decide)
    obtain⟨t0,t1⟩:=jav (v0:=iv M.1) (v1:=.bool M.2) r0 r1
    go_wp2
    exact bpr (v:=.agg #[iv M.1,.bool M.2]) (by simp[results,Tryz.results84,go_sem,t0,t1]) rfl HP.out
  ·replace HM:Hid (momB s ⟨id,name,zone,wall,gap,fold⟩=momD s.now ⟨id,name,zone,wall,gap,fold⟩):=HM.out.trans (if_pos rfl)
   go_wp2_with fail
   have an:=aj.below (jcl _ nq)
   have E2:=E0.below (jcl _ nq)
   have R2:=R0.below (jcl _ nq)
   have bR:=Ay.trans (jap (jcl _ nq))
   have oA:(((w.alloc (.cells #[iv id,.string name,.string zone,iv wall,iv gap,iv fold] 54)).alloc (.cells #[iv 0,.bool false] 180)).drewN nq).heap[w.heap.size+1]? =some (Obj.cells #[iv 0,.bool false] 180):=tX
   clear aj E0 R0 Ay c7 b1 tX
   generalize ((w.alloc (.cells #[iv id,.string name,.string zone,iv wall,iv gap,iv fold] 54)).alloc (.cells #[iv 0,.bool false] 180)).drewN nq=WA at *
   have bY:Zl X w0 WA.drew s bb lb nm wm nn wn a b c d e f ca cb cc cd ce cf:=an.below (jab WA)
   have ED:Zh WA.drew w.heap.size [iv id,.string name,.string zone,iv wall,iv gap,iv fold]:=E2
   have RD:Zh WA.drew (w.heap.size+1) [iv 0,.bool false]:=R2
   have wH:w.grownBy WA.drew none:=bR.trans (jap (jab WA))
   have Uv:=bY.n0
   have Th:=bY.n1
   have Ls:=bY.n2
   have O8:=bY.n3
   have e0:=ED.c 0 rfl
   have e1:=ED.c 1 rfl
   have e2:=ED.c 2 rfl
   have e3:=ED.c 3 rfl
   have e4:=ED.c 4 rfl
   have e5:=ED.c 5 rfl
   have ti:=RD.c 0 rfl
   have xK:=RD.c 1 rfl
   have Cp:=RD.f 0 rfl
   have Cr:=RD.f 1 rfl
   have hC:=lE _ bY
   have qs:=hid bY
   have Bp:=hid wH
   have HH:=hid oA
   clear oA
   clear an bY E2 R2 ED RD lE Ew bR wH HB
   obtain⟨M,rU⟩:=qeb (momT (tabD s.now (jao s.now zone).name) ⟨id,name,zone,wall,gap,fold⟩)
   have Bv:Hid (momD s.now ⟨id,name,zone,wall,gap,fold⟩=M):=(rU)
   have lx:Cl 117 #[.agg #[.slice a s.now.rules.length ca,.slice b s.now.zones.length cb,.slice c s.now.links.length cc,.map (some nm)],.agg #[iv id,.string name,.string zone,iv wall,iv gap,iv fold]] WA.drew fun q w'=>q=.returned (.agg #[iv M.1,.bool M.2])/\Zi w' nm (nn+1) s.now/\WA.drew.grownBy w' (some nm):=hC.mono fun q w' hP=>⟨by rw[hP.ex,rU],hP.cache,hP.grown⟩
   clear hC rU
   go_region_held3 (fun w'=>w'.cell? (ad bb 11)=some (.slice a s.now.rules.length ca)/\w'.cell? (ad bb 12)=some (.slice b s.now.zones.length cb)/\w'.cell? (ad bb 13)=some (.slice c s.now.links.length cc)/\w'.cell? (ad bb 14)=some (.map (some nm))/\w'.cell? (ad w.heap.size 0)=some (iv id)/\w'.cell? (ad w.heap.size 1)=some (.string name)/\w'.cell? (ad w.heap.size 2)=some (.string zone)/\w'.cell? (ad w.heap.size 3)=some (iv wall)/\w'.cell? (ad w.heap.size 4)=some (iv gap)/\w'.cell? (ad w.heap.size 5)=some (iv fold)) (go_keep) ((go_at_call 117;refine lx.mono ?_;rintro q w4 ⟨rfl,DY,cV⟩;have UU:=cV.cell Uv (by simp;omega);have UV:=cV.cell Th (by simp;omega);have Ti:=cV.cell Ls (by simp;omega);have Tj:=cV.cell O8 (by simp;omega);have g0:=cV.cell e0 (by simp;omega);have g1:=cV.cell e1 (by simp;omega);have g2:=cV.cell e2 (by simp;omega);have g3:=cV.cell e3 (by simp;omega);have g4:=cV.cell e4 (by simp;omega);have g5:=cV.cell e5 (by simp;omega);have r0:=cV.cell ti (by simp;omega);have r1:=cV.cell xK (by simp;omega);have f0:=(cV.frozen_far (ad (w.heap.size+1) 0) (qbl ti) (by simp;omega)).trans Cp;have f1:=(cV.frozen_far (ad (w.heap.size+1) 1) (qbl xK) (by simp;omega)).trans Cr))
   all_goals
    have HP:Hid (BMomP X w0 s bb lb nm wm nn wn a b c d e f ca cb cc cd ce cf ⟨id,name,zone,wall,gap,fold⟩ w (.returned (.agg #[iv M.1,.bool M.2])) ((w4.setCell (ad (w.heap.size+1) 0) (iv M.1)).setCell (ad (w.heap.size+1) 1) (.bool M.2))):=by
     have k1:=qs.out.grew_n cV DY
     have G7:=jbz w4 (w.heap.size+1) (iv M.1) (.bool M.2)
     have Gw:w.grownBy ((w4.setCell (ad (w.heap.size+1) 0) (iv M.1)).setCell (ad (w.heap.size+1) 1) (.bool M.2)) (some nm):=((Bp.out.but _).andThen cV (fun _ h=>.inr h)).andThen G7 (fun j h=>by injection h with h;omega)
     refine⟨by rw[HM.out,Bv.out],?_,nm,.inl rfl,Gw⟩
     have KR:=k1.bel.size
     refine k1.grown G7 (by have:=Gi.out;omega) (by omega) (by omega) (by omega) (fun cs hc=>?_)
     rw[(cV.block _ (qbl ti) (by simp;omega)).trans HH.out]at hc
     injection hc with hc
     injection hc with _ hc _
     exact absurd hc (by decide)
    obtain⟨t0,t1⟩:=jav (v0:=iv M.1) (v1:=.bool M.2) r0 r1
    go_wp2
    exact bpr (v:=.agg #[iv M.1,.bool M.2]) (by simp[results,Tryz.results84,go_sem,t0,t1]) rfl HP.out
end
section
open Go.RowKit Go.ChangeMaps Go.MapKept
structure SortC:Prop where
 go:∀(P:List EntryD) (base:Nat) (v:Value) (w:World),Zb w base v P->P.length<=1048576->Cl 113 #[v,.func (.func 114) #[] #[]] w fun e w'=>e=.returned (.tuple #[])/\Zb w' base v (jg9 P)/\w.grownBy w' v.ownBlock
structure MoK(F:Nat)(qi:Array Value)(g:EventD->Int × Bool)(jD:Nat->World->Prop)(b B N:Nat):Prop where
 enter:∀am w,(callFunc F am).run Tryz.prog w=.ok (.enter F am) w
 call:∀k ev W,k<N->jD k W->Cl F (qi++#[ev.v]) W fun q W'=>q=.returned (.agg #[iv (g ev).1,.bool (g ev).2])/\jD (k+1) W'/\∃x,x≠b/\(∃es c,W.heap[x]? =some (.map es c))/\W.grownBy W' (some x)
 below:∀k W W',jD k W->Bw W W'->jD k W'
 row:∀k W W' x,jD k W->W.grownBy W' (some x)->B<=x->(∀cs,W.heap[x]? ≠some (.cells cs 167 (0,0)))->jD k W'
theorem MoK.own{F:Nat}{qi:Array Value}{g:EventD->Int × Bool}{jD:Nat->World->Prop}{b B N:Nat}(h:MoK F qi g jD b B N){k base:Nat}{W W':World}{v:Value}{P:List EntryD}(hI:jD k W)(hO:Zb W base v P)(hg:W.grownBy W' v.ownBlock)(hB:B<=base):jD k W':=by
 rcases hO.2 with⟨rfl,_⟩|⟨g2,cap,cur,rfl,hb,hh,_⟩
 ·exact h.below k W W' hI ⟨hg.os,hg.tape,hg.output,hg.size,fun j hj=>hg.block j hj (by simp[Value.ownBlock])⟩
 ·exact h.row k W W' g2 hI hg (by omega) (fun cs hc=>by rw[hh]at hc;injection hc with hc;injection hc with _ hc _;exact absurd hc (by decide))
theorem j1w{W W':World}{base x:Nat}{v:Value}{P:List EntryD}{es:Array MapEntry}{c:Nat}(hO:Zb W base v P)(hg:W.grownBy W' (some x))(hx:W.heap[x]? =some (.map es c)):Zb W' base v P:=
 World.ownsRow.kept hO hg (.inr fun h=>by
  rcases hO.2 with⟨rfl,_⟩|⟨g2,cap,cur,rfl,hb,hh,_⟩
  ·cases h
  ·injection h with h
   have h3:g2=x:=h
   rw[h3,hx]at hh
   cases hh)
theorem j0l{W W':World}{x p o:Nat}{u:Value}{es:Array MapEntry}{c:Nat}(hg:W.grownBy W' (some x))(hx:W.heap[x]? =some (.map es c))(h:W.cell? (ad p o)=some u):W'.cell? (ad p o)=some u:=
 hg.cell h (fun e=>by injection e with e;have h3:p=x:=e;rw[h3,jrt hx]at h;cases h)
theorem j3o{W:World}{b r n jw x:Nat}{D:DataW EventD}{left:Lit->Bool}{es:Array MapEntry}{c:Nat}(h:W.ranges Tryz.prog 2 jcy b r n D left jw)(hx:W.heap[x]? =some (.map es c)):some r≠some x:=by
 obtain⟨_,_,_,_,_,_,_,_,_,hr,_⟩:=h
 intro e
 injection e with e
 rw[e,hx]at hr
 cases hr
theorem j2c{W:World}{b r n jw:Nat}{D:DataW EventD}{left:Lit->Bool}(h:W.ranges Tryz.prog 2 jcy b r n D left jw):∀cs,W.heap[r]? ≠some (.cells cs 167 (0,0)):=by
 obtain⟨_,_,_,_,_,_,_,_,_,hr,_⟩:=h
 intro cs e
 rw[hr]at e
 cases e
structure EntS(f:Int->Option EventD)(g:EventD->Int × Bool)(left:Lit->Bool)(P:List EntryD):Prop where
 nd:P.Nodup
 mem:∀x,x∈P↔∃e,f e.id=some e/\left (.int .i64 e.id)=false/\(g e).2=true/\x=⟨(g e).1,e.id⟩
theorem EntS.no{f:Int->Option EventD}{g:EventD->Int × Bool}{left:Lit->Bool}{P:List EntryD}{c:EventD}(h:EntS f g left P)(hc:f c.id=some c)(hg:(g c).2=false):EntS f g (fun z=>left z&& !Lit.sameKey z (.int .i64 c.id)) P:=by
 refine⟨h.nd,fun x=>?_⟩
 rw[h.mem]
 constructor
 ·rintro⟨e,h1,h2,h3⟩
  exact⟨e,h1,by simp only[h2,Bool.false_and],h3⟩
 ·rintro⟨e,h1,h2,h3,h4⟩
  rcases jit h2 with h|h
  ·exact⟨e,h1,h,h3,h4⟩
  ·rw[h,hc]at h1
   obtain rfl:=osi h1
   rw[hg]at h3
   cases h3
theorem EntS.yes{f:Int->Option EventD}{g:EventD->Int × Bool}{left:Lit->Bool}{P:List EntryD}{c:EventD}(h:EntS f g left P)(hc:f c.id=some c)(hl:left (.int .i64 c.id)=true)(hg:(g c).2=true):EntS f g (fun z=>left z&& !Lit.sameKey z (.int .i64 c.id)) (P++[⟨(g c).1,c.id⟩]):=by
 refine⟨List.nodup_append.mpr ⟨h.nd,by simp,fun a ha b hb=>?_⟩,fun x=>?_⟩
 ·rw[List.mem_singleton]at hb
  subst hb
  intro e
  subst e
  obtain⟨e,_,h2,_,h4⟩:=(h.mem _).mp ha
  injection h4 with _ h4
  rw[<- h4,hl]at h2
  cases h2
 ·rw[List.mem_append,List.mem_singleton,h.mem]
  constructor
  ·rintro(⟨e,h1,h2,h3⟩|rfl)
   ·exact⟨e,h1,by simp only[h2,Bool.false_and],h3⟩
   ·exact⟨c,hc,by simp only[WideAt.sameKey_self (show WideAt.IsKeyLit (.int .i64 c.id)from trivial),Bool.not_true,Bool.and_false],hg,rfl⟩
  ·rintro⟨e,h1,h2,h3,h4⟩
   rcases jit h2 with h|h
   ·exact .inl ⟨e,h1,h,h3,h4⟩
   ·rw[h,hc]at h1
    obtain rfl:=osi h1
    exact .inr h4
theorem EntS.done{f:Int->Option EventD}{g:EventD->Int × Bool}{left:Lit->Bool}{P:List EntryD}{L:List EventD}(h:EntS f g left P)(hl:∀kl,left kl=false)(hT:Tells f L)(hL:L.Pairwise fun x y=>x.id<y.id):jg9 P=entF g L:=j0f hT hL h.nd fun x=>by
 rw[h.mem]
 constructor
 ·rintro⟨e,h1,_,h3⟩
  exact⟨e,h1,h3⟩
 ·rintro⟨e,h1,h3⟩
  exact⟨e,h1,hl _,h3⟩
structure EntsP(jD:Nat->World->Prop)(N b n:Nat)(f:Int->Option EventD)(X:List EntryD)(w:World)(q:Ending)(w':World):Prop where
 ex:∃v,q=.returned v/\Zb w' w.heap.size v X
 inv:∃k,k<=N/\jD k w'
 live:Zm w' b n f
 size:w.heap.size<=w'.heap.size
end
section
open Go.RowKit Go.ChangeMaps Go.MapKept
theorem jg2(hS:SortC){F:Nat}{qi:Array Value}{g:EventD->Int × Bool}{jD:Nat->World->Prop}{b n:Nat}(f:Int->Option EventD)(L:List EventD)(w:World)(hK:MoK F qi g jD b w.heap.size L.length)(hM:Zm w b n f)(hT:Tells f L)(hL:L.Pairwise fun x y=>x.id<y.id)(hl:L.length<=1000)(hI:jD 0 w):
  Cl 83 #[.map (some b),.func (.func F) qi #[]] w (EntsP jD L.length b n f (entF g L) w):=by
 obtain⟨i0,hi,aG,aH,aF⟩:=jft
 have mt:=hM.lt
 obtain⟨D,ai,hD⟩:=hM.own
 have hsz:Maps.size D=L.length:=jia ai hD hT hL
 have NC:Maps.size D<=1000:=by omega
 have HZ:Hid (Maps.size D=L.length):=hsz
 have HT:=hid hT
 have HD:=hid hD
 have HU:=hid hL
 have fi:=hK.enter
 clear hsz hT hD hL hM
 generalize hNL:L.length=NL at *
 have jL:=hid hNL
 clear hNL
 unfold Cl;go_in
 go_wp2_with (first
  |(at_range;refine wpList_range_own _ rfl _ 105 rfl 2 54 (Maps.int_keyed keyT) mapT jcy b n D rfl ai ?_;intro w0 kK kC F5)
  |go_in)
 go_frame
 have Iw:jD 0 w0:=hK.below 0 w w0 hI ⟨kC.os,kC.tape,kC.output,kC.size,fun j hj=>kC.block j hj (by simp)⟩
 go_loopw [5,7,8] (fun s5 _ _ wr=>∃(k:Nat) (P:List EntryD) (p:Option Addr) (m c:Nat) (left:Lit->Bool) (jw:Nat),s5=.slice p m c/\k+jw<=NL/\P.length<=k/\wr.ranges Tryz.prog 2 jcy b w.heap.size n D left jw/\Zb wr (w.heap.size+1) (.slice p m c) P/\jD k wr/\Hid (EntS f g left P)/\Hid (w.heap.size+1<=wr.heap.size)) (fun _ _ _ wr=>wr.rangeLeft b w.heap.size)
 case atStart=>exact⟨0,[],none,0,0,_,_,rfl,by rw[HZ.out];omega,by simp,kK,World.ownsRow_nil _ _ _ _,Iw,⟨List.nodup_nil,fun x=>⟨fun h=>by simp at h,fun⟨e,h1,h2,_⟩=>by rw[jk0 HD.out h1]at h2;cases h2⟩⟩,by simp only[Hid];omega⟩
 case round=>
  obtain⟨wa,dS⟩:=qea wr
  subst dS
  obtain⟨k,P,p,m,c,left,jw,rfl,MX,Rw,oH,hO,IL,HE,HS⟩:=hrel
  clear kK kC F5 Iw ai hI
  go_wp2_with (first
   |(at_next;refine wpList_next_ranges _ rfl _ rfl 2 (Maps.int_keyed keyT) jcy (Value.int .i64) (fun c:EventD=>Value.agg #[.int .i64 c.id,.string c.name,.string c.zone,.int .i64 c.wall,.int .i64 c.gap,.int .i64 c.fold]) (fun key kl bS=>by(obtain⟨x,rfl,_⟩:=Maps.keyOf_int_inv keyT bS;exact⟨x,rfl⟩)) (fun v y hv=>by(obtain⟨c,rfl,_⟩:=jde hv;exact⟨c,rfl⟩)) b w.heap.size n D left jw rfl oH ?_ ?_)
   |go_in)
  ·intro _ hl0
   have HX:Hid (jg9 P=entF g L):=HE.out.done hl0 HT.out HU.out
   have hC:=hS.go P _ _ _ hO (by omega)
   have HI:Hid (∀w2,wa.grownBy w2 (Value.slice p m c).ownBlock->jD k w2):=fun w2 h=>hK.own IL hO h (by omega)
   go_wp2_with fail
   refine hC.mono ?_
   rintro e w2 ⟨rfl,aW,bR⟩
   have nX:=HI.out w2 bR
   have pF:Hid (Zb w2 w.heap.size (.slice p m c) (entF g L)):=by rw[HX.out]at aW;exact jaj aW (by omega)
   have js:Hid (Zm w2 b n f):=by
    exact⟨D,oH.owns.kept bR (fun e=>by have:=(World.ownsRow.lt hO b e.symm).1;omega),HD.out⟩
   go_wp2
   go_ret
   exact⟨⟨_,rfl,pF.out⟩,⟨k,by omega,nX⟩,js.out,by have:=HS.out;have:=bR.size;omega⟩
  ·intro x c2 kl y ys w1 iS bS i8 ej bE hrg1 hlt cQ bU Ea
   have uK:=hid bU
   clear bU
   have HF:Hid (f x=some c2/\c2.id=x/\kl=.int .i64 x):=by
    obtain⟨x',ex,rfl,_⟩:=Maps.keyOf_int_inv keyT bS
    cases ex
    obtain⟨c',ec,ez⟩:=jde ej
    simp only[Prod.mk.injEq]at ez
    obtain⟨rfl,_⟩:=ez
    have:c'=c2:=by cases c2;cases c';simp only[EventD.v,Value.agg.injEq]at ec;simp_all
    subst this
    have h1:=jv8 HD.out bE
    exact⟨h1,HT.out.id _ _ h1,rfl⟩
   have se:jD k w1:=hK.row k wa w1 w.heap.size IL cQ (nlr _) (j2c oH)
   have dW:Zb w1 (w.heap.size+1) (.slice p m c) P:=World.ownsRow.kept hO cQ (.inr fun h=>by have:=(World.ownsRow.lt hO _ h).1;omega)
   have b2:=qal w1 (.cells #[iv c2.id,.string c2.name,.string c2.zone,iv c2.wall,iv c2.gap,iv c2.fold] 54)
   have nX:jD k (w1.alloc (.cells #[iv c2.id,.string c2.name,.string c2.zone,iv c2.wall,iv c2.gap,iv c2.fold] 54)):=hK.below _ _ _ se b2
   have aW:Zb (w1.alloc (.cells #[iv c2.id,.string c2.name,.string c2.zone,iv c2.wall,iv c2.gap,iv c2.fold] 54)) (w.heap.size+1) (.slice p m c) P:=woa dW _
   have kc:=hrg1.alloc (.cells #[iv c2.id,.string c2.name,.string c2.zone,iv c2.wall,iv c2.gap,iv c2.fold] 54)
   obtain⟨e0,e1,e2,e3,e4,e5⟩:(fun z:World=>z.cell? (ad w1.heap.size 0)=some (iv c2.id)/\z.cell? (ad w1.heap.size 1)=some (.string c2.name)/\z.cell? (ad w1.heap.size 2)=some (.string c2.zone)/\z.cell? (ad w1.heap.size 3)=some (iv c2.wall)/\z.cell? (ad w1.heap.size 4)=some (iv c2.gap)/\z.cell? (ad w1.heap.size 5)=some (iv c2.fold)) (w1.alloc (.cells #[iv c2.id,.string c2.name,.string c2.zone,iv c2.wall,iv c2.gap,iv c2.fold] 54)):=by simp[go_sem]
   obtain⟨⟨M1,M2⟩,hM⟩:=qeb (g c2)
   have HM:=hid hM
   have hC:=hK.call k c2 (w1.alloc (.cells #[iv c2.id,.string c2.name,.string c2.zone,iv c2.wall,iv c2.gap,iv c2.fold] 54)) (by omega) nX
   rw[hM]at hC
   simp only[EventD.v]at hC
   have LK:=hid i8
   have Gx:=hid hlt
   have wS:k+1+iS<=NL:=by omega
   have jM:Hid (w.heap.size+1<=(w1.alloc (.cells #[iv c2.id,.string c2.name,.string c2.zone,iv c2.wall,iv c2.gap,iv c2.fold] 54)).heap.size):=by have h1:=HS.out;have h2:=b2.size;have h3:=uK.out;simp only[Hid];omega
   clear hM ej bE bS cQ se dW nX b2 i8 hlt MX
   go_wp2_with fail
   refine hC.mono ?_
   rintro q w3 ⟨rfl,Ix,xx,sN,⟨es,cl,vM⟩,nK⟩
   have kM:=kc.kept nK (by simpa using Ne.symm sN) (j3o kc vM)
   have dE:=j1w aW nK vM
   have i3:=j0l nK vM e0
   have yU:Hid (w.heap.size+1<=w3.heap.size):=Nat.le_trans jM.out nK.size
   have b4:=qal w3 (.cells #[iv M1,.bool M2] 180)
   have Dk:jD (k+1) (w3.alloc (.cells #[iv M1,.bool M2] 180)):=hK.below _ _ _ Ix b4
   have dX:Zb (w3.alloc (.cells #[iv M1,.bool M2] 180)) (w.heap.size+1) (.slice p m c) P:=woa dE _
   have lS:=kM.alloc (.cells #[iv M1,.bool M2] 180)
   have i4:=jaa b4 i3
   have yV:Hid (w.heap.size+1<=(w3.alloc (.cells #[iv M1,.bool M2] 180)).heap.size):=Nat.le_trans yU.out b4.size
   clear kM dE i3 Ix b4 nK vM kc aW e0 e1 e2 e3 e4 e5 hC
   cases M2
   ·have lc:Hid (EntS f g (fun z=>left z&& !Lit.sameKey z kl) P):=by
     have h:=HF.out
     rw[h.2.2, <- h.2.1]
     exact HE.out.no (by rw[h.2.1];exact h.1) (by rw[HM.out])
    go_wp2
    go_roundw
    case rel=>exact⟨k+1,P,p,m,c,_,iS,rfl,wS,by omega,lS,dX,Dk,lc,yV⟩
    case measure=>rw[lS.left_eq,oH.left_eq];exact Gx.out
   ·have lc:Hid (EntS f g (fun z=>left z&& !Lit.sameKey z kl) (P++[⟨M1,c2.id⟩])):=by
     have h:=HF.out
     have h2:=HE.out.yes (c:=c2) (by rw[h.2.1];exact h.1) (by rw[h.2.1, <- h.2.2];exact LK.out) (by rw[HM.out])
     rw[HM.out,h.2.1, <- h.2.2]at h2
     rw[h.2.1]
     exact h2
    have Lu:Hid (jD (k+1) ((w3.alloc (.cells #[iv M1,.bool true] 180)).alloc (.cells #[iv M1,iv c2.id] 57))):=hK.below _ _ _ Dk (qal _ _)
    have fe:Zb ((w3.alloc (.cells #[iv M1,.bool true] 180)).alloc (.cells #[iv M1,iv c2.id] 57)) (w.heap.size+1) (.slice p m c) P:=woa dX _
    have xk:=lS.alloc (.cells #[iv M1,iv c2.id] 57)
    have Eu:Hid (w.heap.size+1<=((w3.alloc (.cells #[iv M1,.bool true] 180)).alloc (.cells #[iv M1,iv c2.id] 57)).heap.size):=Nat.le_trans yV.out (qal _ _).size
    have BE:=hid fe
    have gr:=hid xk
    clear Dk dX lS yV xk
    go_wp2_with (first|(at_builtin;refine wpList_append_own _ rfl _ _ 39 rfl (w.heap.size+1) 57 i0 (.agg #[iv 0,iv 0]) 2 16 Tryz.underlying39 hi aG aH aF rfl (by decide) _ _ _ rfl fe (ad (w3.heap.size+1) 0) 1 1 [iv M1,iv c2.id] rfl rfl ?b1 ?b2 ?b3 ?b4 ?b5 ?_)|fail)
    case b1=>have h:=jah (w3.alloc (.cells #[iv M1,.bool true] 180)) [iv M1,iv c2.id] 57;simpa using h
    case b2=>intro u hu;simp at hu;rcases hu with rfl|rfl<;>rfl
    case b3=>unfold maxLen;omega
    case b4=>omega
    case b5=>exact Eu.out
    intro v6 w6 oL kv _
    obtain⟨p6,m6,c6,rfl⟩:=jad oL
    have um:Hid (Zb w6 (w.heap.size+1) (.slice p6 m6 c6) (P++[⟨M1,c2.id⟩])):=by
     simp only[Hid]
     unfold Zb
     rw[lla,lma,List.flatten_append]
     simpa [EntryD.cs]using oL
    have Lv:Hid (jD (k+1) w6):=hK.own Lu.out BE.out kv (by omega)
    have li:Hid (w6.ranges Tryz.prog 2 jcy b w.heap.size n D (fun z=>left z&& !Lit.sameKey z kl) iS):=gr.out.kept kv (fun e=>by have:=(World.ownsRow.lt BE.out b e.symm).1;omega) (fun e=>by have:=(World.ownsRow.lt BE.out _ e.symm).1;omega)
    have LM:Hid (w.heap.size+1<=w6.heap.size):=Nat.le_trans Eu.out kv.size
    clear oL kv fe
    go_wp2
    go_roundw
    case rel=>exact⟨k+1,_,p6,m6,c6,_,iS,rfl,wS,by simp;omega,li.out,um.out,Lv.out,lc,LM⟩
    case measure=>rw[li.out.left_eq,oH.left_eq];exact Gx.out
end
section
open Go.RowKit Go.ChangeMaps Go.MapKept Go.WideMaps
theorem jjr{w:World}{b n:Nat}{r:RelD}(h:Zi w b n r):∃es c,w.heap[b]? =some (.map es c):=by
 obtain⟨D,⟨es,aZ,hb,_⟩,_⟩:=h.own
 exact⟨es,aZ,hb⟩
theorem j0n{X:List (Nat × Value)}(w0:World)(s:StoreD)(bb lb nm wm B N:Nat)(a b c d e f:Option Addr)(ca cb cc cd ce cf:Nat)(hE:Zx w0)(hN:Zd w0 (.agg #[.slice a s.now.rules.length ca,.slice b s.now.zones.length cb,.slice c s.now.links.length cc]) s.now)(hW:Zd w0 (.agg #[.slice d s.was.rules.length cd,.slice e s.was.zones.length ce,.slice f s.was.links.length cf]) s.was)(ok:Jk s.now)(kS:Jk s.was)(hr:relB s.now=true)(dC:relB s.was=true)(hB:w0.heap.size<=B)(h1:bb<B)(h2:nm<B)(h3:wm<B)(h4:nm≠lb)(h5:wm≠lb)(MD:N<=1000):
  MoK 84 #[.pointer (some (ad bb 0))] (momB s) (fun k W=>Zl X w0 W s bb lb nm wm k k a b c d e f ca cb cc cd ce cf) lb B N where
 enter:=fun _ _=>by kernel_rfl
 call:=fun k ev W hk hI=>(jjg w0 s bb lb nm wm k k a b c d e f ca cb cc cd ce cf ev W hE hN hW ok kS hr dC hI (by omega) (by omega)).mono fun q W' hP=>⟨hP.ex,hP.book,by
  obtain⟨g,hg,dp⟩:=hP.grown
  rcases hg with rfl|rfl
  ·exact⟨_,h4,jjr hI.cn,dp⟩
  ·exact⟨_,h5,jjr hI.cw,dp⟩⟩
 below:=fun k W W' hI hb=>hI.below hb
 row:=fun k W W' x hI hg hx ht=>hI.grown hg (by omega) (by omega) (by omega) (by omega) ht
theorem jhk(hS:SortC){X:List (Nat × Value)}(w0:World)(s:StoreD)(bb lb nm wm n:Nat)(a b c d e f:Option Addr)(ca cb cc cd ce cf:Nat)(F:Int->Option EventD)(L:List EventD)(w:World)(hE:Zx w0)(hN:Zd w0 (.agg #[.slice a s.now.rules.length ca,.slice b s.now.zones.length cb,.slice c s.now.links.length cc]) s.now)(hW:Zd w0 (.agg #[.slice d s.was.rules.length cd,.slice e s.was.zones.length ce,.slice f s.was.links.length cf]) s.was)(ok:Jk s.now)(kS:Jk s.was)(hr:relB s.now=true)(dC:relB s.was=true)(hB:Zl X w0 w s bb lb nm wm 0 0 a b c d e f ca cb cc cd ce cf)(h4:nm≠lb)(h5:wm≠lb)(hM:Zm w lb n F)(hT:Tells F L)(hL:L.Pairwise fun x y=>x.id<y.id)(hl:L.length<=1000):
  Cl 51 #[.pointer (some (ad bb 0))] w (EntsP (fun k W=>Zl X w0 W s bb lb nm wm k k a b c d e f ca cb cc cd ce cf) L.length lb n F (entF (momB s) L) w):=by
 have hK:=j0n (X:=X) w0 s bb lb nm wm w.heap.size L.length a b c d e f ca cb cc cd ce cf hE hN hW ok kS hr dC hB.bel.size (qbl hB.cur) hB.cn.lt hB.cw.lt h4 h5 hl
 have hC:=jg2 hS F L w hK hM hT hL hl hB
 have Sy:=hB.live
 clear hK hB hE hN hW ok kS hr dC hM hT hL
 unfold Cl;go_in
 go_wp2_with fail
 refine hC.mono ?_
 rintro q w2 hP
 obtain⟨v,rfl,hO⟩:=hP.ex
 go_wp2
 go_ret
 exact hP
