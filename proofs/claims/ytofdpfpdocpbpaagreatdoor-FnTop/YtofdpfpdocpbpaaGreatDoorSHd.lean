/- Packed. -/
import Derived.Test.YtofdpfpdocpbpaaGreatDoorSGd
import Derived.Test.YtofdpfpdocpbpaaGreatDoorSDd
import Derived.Test.YtofdpfpdocpbpaaGreatDoorSLd
import Derived.BigQuiet
import Derived.Deep.RegionHeld3
import Derived.Maps.RangeWalk
set_option maxRecDepth 100000
set_option maxHeartbeats 20000000
set_option linter.unusedSimpArgs false
namespace Go.Proofs.YtofdpfpdocpbpaaGreatDoor
section
open Go.RowKit Go.ChangeMaps Go.MapKept Go.WideMaps
def momD(r:RelD)(e:EventD):Int × Bool:=momT (tabD r (jat r e.zone).name) e
def momB(s:Za)(e:EventD):Int × Bool:=if s.cur=0\/e.id<s.cur then momD s.now e else momD s.was e
structure Zj(X:List (Nat × Value))(w0 w:World)(s:Za)(bb lb nm wm nn wn:Nat)(a b c d e f:Option Addr)(ca cb cc cd ce cf:Nat):Prop where
 bel:Below w0.heap.size w0 w
 cur:w.cell? ⟨bb,7,none⟩=some (.int .i64 s.cur)
 live:w.cell? ⟨bb,10,none⟩=some (.map (some lb))
 n0:w.cell? ⟨bb,11,none⟩=some (.slice a s.now.rules.length ca)
 n1:w.cell? ⟨bb,12,none⟩=some (.slice b s.now.zones.length cb)
 n2:w.cell? ⟨bb,13,none⟩=some (.slice c s.now.links.length cc)
 n3:w.cell? ⟨bb,14,none⟩=some (.map (some nm))
 w1:w.cell? ⟨bb,15,none⟩=some (.slice d s.was.rules.length cd)
 w2:w.cell? ⟨bb,16,none⟩=some (.slice e s.was.zones.length ce)
 w3:w.cell? ⟨bb,17,none⟩=some (.slice f s.was.links.length cf)
 w4:w.cell? ⟨bb,18,none⟩=some (.map (some wm))
 cn:Ze w nm nn s.now
 cw:Ze w wm wn s.was
 ne:nm≠wm
 bn:w0.heap.size<=nm
 bw:w0.heap.size<=wm
 more:∀p∈X,w.cell? ⟨bb,p.1,none⟩=some p.2
 blk:∃cs,w.heap[bb]? =some (.cells cs 85 (0,0))
theorem Zj.below{X:List (Nat × Value)}{w0 w w':World}{s:Za}{bb lb nm wm nn wn:Nat}{a b c d e f:Option Addr}{ca cb cc cd ce cf:Nat}(h:Zj X w0 w s bb lb nm wm nn wn a b c d e f ca cb cc cd ce cf)(hb:Below w.heap.size w w'):Zj X w0 w' s bb lb nm wm nn wn a b c d e f ca cb cc cd ce cf:=
 ⟨h.bel.trans (hb.mono h.bel.size),jab hb h.cur,jab hb h.live,jab hb h.n0,jab hb h.n1,jab hb h.n2,jab hb h.n3,jab hb h.w1,jab hb h.w2,jab hb h.w3,jab hb h.w4,h.cn.below hb,h.cw.below hb,h.ne,h.bn,h.bw,fun p hp=>jab hb (h.more p hp),by
  obtain⟨cs,h1⟩:=h.blk
  exact⟨cs,(hb.block bb (qbl h.cur)).trans h1⟩⟩
theorem Zj.ne_n{X:List (Nat × Value)}{w0 w:World}{s:Za}{bb lb nm wm nn wn:Nat}{a b c d e f:Option Addr}{ca cb cc cd ce cf:Nat}(h:Zj X w0 w s bb lb nm wm nn wn a b c d e f ca cb cc cd ce cf):bb≠nm:=fun he=>by(have:=h.cn.cell 7;rw[<- he,h.cur]at this;cases this)
theorem Zj.ne_w{X:List (Nat × Value)}{w0 w:World}{s:Za}{bb lb nm wm nn wn:Nat}{a b c d e f:Option Addr}{ca cb cc cd ce cf:Nat}(h:Zj X w0 w s bb lb nm wm nn wn a b c d e f ca cb cc cd ce cf):bb≠wm:=fun he=>by(have:=h.cw.cell 7;rw[<- he,h.cur]at this;cases this)
theorem j7f{w0 w w':World}{g:Nat}(h:Below w0.heap.size w0 w)(hg:w.grownBy w' (some g))(hb:w0.heap.size<=g):Below w0.heap.size w0 w':=h.grown hg h.size (fun k hk=>by injection hk with hk;omega)
theorem Zj.grown{X:List (Nat × Value)}{w0 w w':World}{g:Nat}{s:Za}{bb lb nm wm nn wn:Nat}{a b c d e f:Option Addr}{ca cb cc cd ce cf:Nat}(h:Zj X w0 w s bb lb nm wm nn wn a b c d e f ca cb cc cd ce cf)(hg:w.grownBy w' (some g))(hb:w0.heap.size<=g)(h1:bb≠g)(h2:nm≠g)(h3:wm≠g)(hne:∀cs,w.heap[g]? ≠some (.cells cs 304 (0,0))):Zj X w0 w' s bb lb nm wm nn wn a b c d e f ca cb cc cd ce cf:=by
 have k:some bb≠some g:=by simpa using h1
 exact⟨j7f h.bel hg hb,hg.cell h.cur k,hg.cell h.live k,hg.cell h.n0 k,hg.cell h.n1 k,hg.cell h.n2 k,hg.cell h.n3 k,hg.cell h.w1 k,hg.cell h.w2 k,hg.cell h.w3 k,hg.cell h.w4 k,h.cn.grown hg h2 hne,h.cw.grown hg h3 hne,h.ne,h.bn,h.bw,fun p hp=>hg.cell (h.more p hp) k,by
  obtain⟨cs,h1⟩:=h.blk
  exact⟨cs,(hg.block bb (qbl h.cur) k).trans h1⟩⟩
theorem jo6{w:World}{b n:Nat}{r:RelD}(h:Ze w b n r):∀cs,w.heap[b]? ≠some (.cells cs 304 (0,0)):=fun cs hc=>h.blk b cs hc rfl
theorem Zj.grew_n{X:List (Nat × Value)}{w0 w w':World}{s:Za}{bb lb nm wm nn wn:Nat}{a b c d e f:Option Addr}{ca cb cc cd ce cf:Nat}(h:Zj X w0 w s bb lb nm wm nn wn a b c d e f ca cb cc cd ce cf)(hg:w.grownBy w' (some nm))(hc:Ze w' nm (nn+1) s.now):Zj X w0 w' s bb lb nm wm (nn+1) (wn+1) a b c d e f ca cb cc cd ce cf:=by
 have k:some bb≠some nm:=by simpa using h.ne_n
 exact⟨j7f h.bel hg h.bn,hg.cell h.cur k,hg.cell h.live k,hg.cell h.n0 k,hg.cell h.n1 k,hg.cell h.n2 k,hg.cell h.n3 k,hg.cell h.w1 k,hg.cell h.w2 k,hg.cell h.w3 k,hg.cell h.w4 k,hc,(h.cw.grown hg (Ne.symm h.ne) (jo6 h.cn)).mono (by omega),h.ne,h.bn,h.bw,fun p hp=>hg.cell (h.more p hp) k,by
  obtain⟨cs,h1⟩:=h.blk
  exact⟨cs,(hg.block bb (qbl h.cur) k).trans h1⟩⟩
theorem Zj.grew_w{X:List (Nat × Value)}{w0 w w':World}{s:Za}{bb lb nm wm nn wn:Nat}{a b c d e f:Option Addr}{ca cb cc cd ce cf:Nat}(h:Zj X w0 w s bb lb nm wm nn wn a b c d e f ca cb cc cd ce cf)(hg:w.grownBy w' (some wm))(hc:Ze w' wm (wn+1) s.was):Zj X w0 w' s bb lb nm wm (nn+1) (wn+1) a b c d e f ca cb cc cd ce cf:=by
 have k:some bb≠some wm:=by simpa using h.ne_w
 exact⟨j7f h.bel hg h.bw,hg.cell h.cur k,hg.cell h.live k,hg.cell h.n0 k,hg.cell h.n1 k,hg.cell h.n2 k,hg.cell h.n3 k,hg.cell h.w1 k,hg.cell h.w2 k,hg.cell h.w3 k,hg.cell h.w4 k,(h.cn.grown hg h.ne (jo6 h.cw)).mono (by omega),hc,h.ne,h.bn,h.bw,fun p hp=>hg.cell (h.more p hp) k,by
  obtain⟨cs,h1⟩:=h.blk
  exact⟨cs,(hg.block bb (qbl h.cur) k).trans h1⟩⟩
structure BMomP(X:List (Nat × Value))(w0:World)(s:Za)(bb lb nm wm nn wn:Nat)(a b c d e f:Option Addr)(ca cb cc cd ce cf:Nat)(ev:EventD)(w:World)(q:Ending)(w':World):Prop where
 ex:q=.returned (.agg #[.int .i64 (momB s ev).1,.bool (momB s ev).2])
 book:Zj X w0 w' s bb lb nm wm (nn+1) (wn+1) a b c d e f ca cb cc cd ce cf
 grown:∃g,(g=nm\/g=wm)/\w.grownBy w' (some g)
theorem jrx{s:Za}{e:EventD}(h:s.cur=0\/e.id<s.cur):momB s e=momD s.now e:=if_pos h
theorem j09{s:Za}{e:EventD}(h:¬(s.cur=0\/e.id<s.cur)):momB s e=momD s.was e:=if_neg h
theorem jcr(w:World)(n:Nat):Below w.heap.size w (w.drewN n):=⟨rfl,rfl,rfl,Nat.le_refl _,fun _ _=>rfl⟩
theorem jjn{X:List (Nat × Value)}(w0:World)(s:Za)(bb lb nm wm nn wn:Nat)(a b c d e f:Option Addr)(ca cb cc cd ce cf:Nat)(ev:EventD)(w:World)(hE:Zm w0)(hN:Zi w0 (.agg #[.slice a s.now.rules.length ca,.slice b s.now.zones.length cb,.slice c s.now.links.length cc]) s.now)(hW:Zi w0 (.agg #[.slice d s.was.rules.length cd,.slice e s.was.zones.length ce,.slice f s.was.links.length cf]) s.was)(ok:Zr s.now)(ok2:Zr s.was)(hr:relB s.now=true)(hr2:relB s.was=true)(hB:Zj X w0 w s bb lb nm wm nn wn a b c d e f ca cb cc cd ce cf)(hnn:nn<=1048576)(hwn:wn<=1048576):
  Calls Tryz.prog 58 #[.pointer (some ⟨bb,0,none⟩),ev.v] w (BMomP X w0 s bb lb nm wm nn wn a b c d e f ca cb cc cd ce cf ev w):=by
 have HB:=hid hB
 have b1:Below w.heap.size w ((w.alloc (.cells #[.int .i64 ev.id,.string ev.name,.string ev.zone,.int .i64 ev.wall,.int .i64 ev.gap,.int .i64 ev.fold] 99)).alloc (.cells #[.int .i64 0,.bool false] 152)):=(qal _ _).alloc (by simp) _
 have hB1:=hB.below b1
 obtain⟨id,name,zone,wall,gap,fold⟩:=ev
 simp only[EventD.v]at *
 have hbb:bb<w.heap.size:=qbl hB.cur
 have E0:Zc ((w.alloc (.cells #[.int .i64 id,.string name,.string zone,.int .i64 wall,.int .i64 gap,.int .i64 fold] 99)).alloc (.cells #[.int .i64 0,.bool false] 152)) w.heap.size [.int .i64 id,.string name,.string zone,.int .i64 wall,.int .i64 gap,.int .i64 fold]:=(Zc.new w [.int .i64 id,.string name,.string zone,.int .i64 wall,.int .i64 gap,.int .i64 fold] 99).below (qal _ _)
 have R0:Zc ((w.alloc (.cells #[.int .i64 id,.string name,.string zone,.int .i64 wall,.int .i64 gap,.int .i64 fold] 99)).alloc (.cells #[.int .i64 0,.bool false] 152)) (w.heap.size+1) [.int .i64 0,.bool false]:=by have h:=Zc.new (w.alloc (.cells #[.int .i64 id,.string name,.string zone,.int .i64 wall,.int .i64 gap,.int .i64 fold] 99)) [.int .i64 0,.bool false] 152;simpa using h
 have hgW:=jag b1
 have hh1:((w.alloc (.cells #[.int .i64 id,.string name,.string zone,.int .i64 wall,.int .i64 gap,.int .i64 fold] 99)).alloc (.cells #[.int .i64 0,.bool false] 152)).heap[w.heap.size+1]? =some (Obj.cells #[.int .i64 0,.bool false] 152):=by
  have h:=heap_alloc_new (w.alloc (.cells #[.int .i64 id,.string name,.string zone,.int .i64 wall,.int .i64 gap,.int .i64 fold] 99)) (.cells #[.int .i64 0,.bool false] 152)
  have e:(w.alloc (.cells #[.int .i64 id,.string name,.string zone,.int .i64 wall,.int .i64 gap,.int .i64 fold] 99)).heap.size=w.heap.size+1:=by simp
  rw[e]at h
  exact h
 have nb1:¬bb=w.heap.size+1:=by omega
 have nb2:¬w.heap.size+1=bb:=by omega
 have nd:=hB.ne_n
 have nw:=hB.ne_w
 have ln:=hB.cn.lt
 have lw:=hB.cw.lt
 have hmn:∀W:World,Zj X w0 W s bb lb nm wm nn wn a b c d e f ca cb cc cd ce cf->Calls Tryz.prog 92 #[.agg #[.slice a s.now.rules.length ca,.slice b s.now.zones.length cb,.slice c s.now.links.length cc,.map (some nm)],.agg #[.int .i64 id,.string name,.string zone,.int .i64 wall,.int .i64 gap,.int .i64 fold]] W (MomP s.now ⟨id,name,zone,wall,gap,fold⟩ nm nn W):=fun W h=>jby s.now a b c ca cb cc nm nn ⟨id,name,zone,wall,gap,fold⟩ W (hE.of_below h.bel) (hN.below h.bel) ok hr h.cn hnn
 have hmw:∀W:World,Zj X w0 W s bb lb nm wm nn wn a b c d e f ca cb cc cd ce cf->Calls Tryz.prog 92 #[.agg #[.slice d s.was.rules.length cd,.slice e s.was.zones.length ce,.slice f s.was.links.length cf,.map (some wm)],.agg #[.int .i64 id,.string name,.string zone,.int .i64 wall,.int .i64 gap,.int .i64 fold]] W (MomP s.was ⟨id,name,zone,wall,gap,fold⟩ wm wn W):=fun W h=>jby s.was d e f cd ce cf wm wn ⟨id,name,zone,wall,gap,fold⟩ W (hE.of_below h.bel) (hW.below h.bel) ok2 hr2 h.cw hwn
 have HB0:=hid hB.bel.size
 clear hE hN hW ok ok2 hr hr2 hB
 have c7:=hB1.cur
 have i0:=E0.c 0 rfl
 go_enter Tryz.func58,Tryz.ntmps58
 go_upto_region 1 with fail
 go_cut [20]from 5 to 19 (fun s20 wx=>∃(bo:Bool) (nq:Nat),s20=.bool bo/\wx=((w.alloc (.cells #[.int .i64 id,.string name,.string zone,.int .i64 wall,.int .i64 gap,.int .i64 fold] 99)).alloc (.cells #[.int .i64 0,.bool false] 152)).drewN nq/\Hid (momB s ⟨id,name,zone,wall,gap,fold⟩=if bo=true then momD s.now ⟨id,name,zone,wall,gap,fold⟩else momD s.was ⟨id,name,zone,wall,gap,fold⟩))
 case first=>
  by_cases h1:s.cur=0
  ·have HM:Hid (momB s ⟨id,name,zone,wall,gap,fold⟩=momD s.now ⟨id,name,zone,wall,gap,fold⟩):=jrx (.inl h1)
   rw[h1]at c7
   clear h1
   go_quiet (fail)
   go_wp2
   go_meet
   exact⟨true,nq,rfl,rfl,HM.out⟩
  obtain⟨cu,hcu⟩:∃x,s.cur=x:=⟨_,rfl⟩
  by_cases h2:id<s.cur
  ·have HM:Hid (momB s ⟨id,name,zone,wall,gap,fold⟩=momD s.now ⟨id,name,zone,wall,gap,fold⟩):=jrx (.inr h2)
   rw[hcu]at c7 h1 h2
   have h1b:(cu==0)=false:=by simp[h1]
   have h2b:decide (id<cu)=true:=by simp;omega
   clear hcu h1 h2
   go_quiet (fail)
   go_wp2
   go_meet
   exact⟨true,nq,rfl,rfl,HM.out⟩
  ·have HM:Hid (momB s ⟨id,name,zone,wall,gap,fold⟩=momD s.was ⟨id,name,zone,wall,gap,fold⟩):=j09 (fun h=>h.elim h1 h2)
   rw[hcu]at c7 h1 h2
   have h1b:(cu==0)=false:=by simp[h1]
   have h2b:decide (id<cu)=false:=by simp;omega
   clear hcu h1 h2
   go_quiet (fail)
   go_wp2
   go_meet
   exact⟨false,nq,rfl,rfl,HM.out⟩
 case rest=>
  obtain⟨bo,nq,rfl,rfl,HM⟩:=hcut
  cases bo
  ·replace HM:Hid (momB s ⟨id,name,zone,wall,gap,fold⟩=momD s.was ⟨id,name,zone,wall,gap,fold⟩):=HM.out.trans (if_neg (by simp))
   go_wp2_with fail
   have hB2:=hB1.below (jcr _ nq)
   have E2:=E0.below (jcr _ nq)
   have R2:=R0.below (jcr _ nq)
   have hg2:=hgW.trans (jag (jcr _ nq))
   have hh2:(((w.alloc (.cells #[.int .i64 id,.string name,.string zone,.int .i64 wall,.int .i64 gap,.int .i64 fold] 99)).alloc (.cells #[.int .i64 0,.bool false] 152)).drewN nq).heap[w.heap.size+1]? =some (Obj.cells #[.int .i64 0,.bool false] 152):=hh1
   clear hB1 E0 R0 hgW c7 b1 hh1
   generalize ((w.alloc (.cells #[.int .i64 id,.string name,.string zone,.int .i64 wall,.int .i64 gap,.int .i64 fold] 99)).alloc (.cells #[.int .i64 0,.bool false] 152)).drewN nq=WA at *
   have hBD:Zj X w0 WA.drew s bb lb nm wm nn wn a b c d e f ca cb cc cd ce cf:=hB2.below (jaa WA)
   have ED:Zc WA.drew w.heap.size [.int .i64 id,.string name,.string zone,.int .i64 wall,.int .i64 gap,.int .i64 fold]:=E2
   have RD:Zc WA.drew (w.heap.size+1) [.int .i64 0,.bool false]:=R2
   have hgD:w.grownBy WA.drew none:=hg2.trans (jag (jaa WA))
   have y15:=hBD.w1
   have y16:=hBD.w2
   have y17:=hBD.w3
   have y18:=hBD.w4
   have e0:=ED.c 0 rfl
   have e1:=ED.c 1 rfl
   have e2:=ED.c 2 rfl
   have e3:=ED.c 3 rfl
   have e4:=ED.c 4 rfl
   have e5:=ED.c 5 rfl
   have r0_:=RD.c 0 rfl
   have r1_:=RD.c 1 rfl
   have f0_:=RD.f 0 rfl
   have f1_:=RD.f 1 rfl
   have hC:=hmw _ hBD
   have HBD:=hid hBD
   have HGD:=hid hgD
   have HH:=hid hh2
   clear hh2
   clear hB2 hBD E2 R2 ED RD hmn hmw hg2 hgD HB
   obtain⟨M,hMM⟩:∃M,momT (tabD s.was (jat s.was zone).name) ⟨id,name,zone,wall,gap,fold⟩=M:=⟨_,rfl⟩
   have HMM:Hid (momD s.was ⟨id,name,zone,wall,gap,fold⟩=M):=(hMM)
   have hC2:Calls Tryz.prog 92 #[.agg #[.slice d s.was.rules.length cd,.slice e s.was.zones.length ce,.slice f s.was.links.length cf,.map (some wm)],.agg #[.int .i64 id,.string name,.string zone,.int .i64 wall,.int .i64 gap,.int .i64 fold]] WA.drew fun q w'=>q=.returned (.agg #[.int .i64 M.1,.bool M.2])/\Ze w' wm (wn+1) s.was/\WA.drew.grownBy w' (some wm):=hC.mono fun q w' hP=>⟨by rw[hP.ex,hMM],hP.cache,hP.grown⟩
   clear hC hMM
   go_region_held3 (fun w'=>w'.cell? ⟨bb,15,none⟩=some (.slice d s.was.rules.length cd)/\w'.cell? ⟨bb,16,none⟩=some (.slice e s.was.zones.length ce)/\w'.cell? ⟨bb,17,none⟩=some (.slice f s.was.links.length cf)/\w'.cell? ⟨bb,18,none⟩=some (.map (some wm))/\w'.cell? ⟨w.heap.size,0,none⟩=some (.int .i64 id)/\w'.cell? ⟨w.heap.size,1,none⟩=some (.string name)/\w'.cell? ⟨w.heap.size,2,none⟩=some (.string zone)/\w'.cell? ⟨w.heap.size,3,none⟩=some (.int .i64 wall)/\w'.cell? ⟨w.heap.size,4,none⟩=some (.int .i64 gap)/\w'.cell? ⟨w.heap.size,5,none⟩=some (.int .i64 fold)) (go_keep) ((go_at_call 92;refine hC2.mono ?_;rintro q w4 ⟨rfl,hcP,hgP⟩;have z15:=hgP.cell y15 (by simp;omega);have z16:=hgP.cell y16 (by simp;omega);have z17:=hgP.cell y17 (by simp;omega);have z18:=hgP.cell y18 (by simp;omega);have g0:=hgP.cell e0 (by simp;omega);have g1:=hgP.cell e1 (by simp;omega);have g2:=hgP.cell e2 (by simp;omega);have g3:=hgP.cell e3 (by simp;omega);have g4:=hgP.cell e4 (by simp;omega);have g5:=hgP.cell e5 (by simp;omega);have r0:=hgP.cell r0_ (by simp;omega);have r1:=hgP.cell r1_ (by simp;omega);have f0:=(hgP.frozen_far ⟨w.heap.size+1,0,none⟩ (qbl r0_) (by simp;omega)).trans f0_;have f1:=(hgP.frozen_far ⟨w.heap.size+1,1,none⟩ (qbl r1_) (by simp;omega)).trans f1_))
   all_goals
    have HP:Hid (BMomP X w0 s bb lb nm wm nn wn a b c d e f ca cb cc cd ce cf ⟨id,name,zone,wall,gap,fold⟩ w (.returned (.agg #[.int .i64 M.1,.bool M.2])) ((w4.setCell ⟨w.heap.size+1,0,none⟩ (.int .i64 M.1)).setCell ⟨w.heap.size+1,1,none⟩ (.bool M.2))):=by
     have k1:=HBD.out.grew_w hgP hcP
     have G7:=ja2 w4 (w.heap.size+1) (.int .i64 M.1) (.bool M.2)
     have Gw:w.grownBy ((w4.setCell ⟨w.heap.size+1,0,none⟩ (.int .i64 M.1)).setCell ⟨w.heap.size+1,1,none⟩ (.bool M.2)) (some wm):=((HGD.out.but _).andThen hgP (fun _ h=>.inr h)).andThen G7 (fun j h=>by injection h with h;omega)
     refine⟨by rw[HM.out,HMM.out],?_,wm,.inr rfl,Gw⟩
     have hw0:=k1.bel.size
     refine k1.grown G7 (by have:=HB0.out;omega) (by omega) (by omega) (by omega) (fun cs hc=>?_)
     rw[(hgP.block _ (qbl r0_) (by simp;omega)).trans HH.out]at hc
     injection hc with hc
     injection hc with _ hc _
     exact absurd hc (by decide)
    obtain⟨t0,t1⟩:=ja5 (v0:=.int .i64 M.1) (v1:=.bool M.2) r0 r1
    go_wp2
    exact bodyPost_ret (v:=.agg #[.int .i64 M.1,.bool M.2]) (by simp[results,Tryz.results58,go_sem,t0,t1]) rfl HP.out
  ·replace HM:Hid (momB s ⟨id,name,zone,wall,gap,fold⟩=momD s.now ⟨id,name,zone,wall,gap,fold⟩):=HM.out.trans (if_pos rfl)
   go_wp2_with fail
   have hB2:=hB1.below (jcr _ nq)
   have E2:=E0.below (jcr _ nq)
   have R2:=R0.below (jcr _ nq)
   have hg2:=hgW.trans (jag (jcr _ nq))
   have hh2:(((w.alloc (.cells #[.int .i64 id,.string name,.string zone,.int .i64 wall,.int .i64 gap,.int .i64 fold] 99)).alloc (.cells #[.int .i64 0,.bool false] 152)).drewN nq).heap[w.heap.size+1]? =some (Obj.cells #[.int .i64 0,.bool false] 152):=hh1
   clear hB1 E0 R0 hgW c7 b1 hh1
   generalize ((w.alloc (.cells #[.int .i64 id,.string name,.string zone,.int .i64 wall,.int .i64 gap,.int .i64 fold] 99)).alloc (.cells #[.int .i64 0,.bool false] 152)).drewN nq=WA at *
   have hBD:Zj X w0 WA.drew s bb lb nm wm nn wn a b c d e f ca cb cc cd ce cf:=hB2.below (jaa WA)
   have ED:Zc WA.drew w.heap.size [.int .i64 id,.string name,.string zone,.int .i64 wall,.int .i64 gap,.int .i64 fold]:=E2
   have RD:Zc WA.drew (w.heap.size+1) [.int .i64 0,.bool false]:=R2
   have hgD:w.grownBy WA.drew none:=hg2.trans (jag (jaa WA))
   have y11:=hBD.n0
   have y12:=hBD.n1
   have y13:=hBD.n2
   have y14:=hBD.n3
   have e0:=ED.c 0 rfl
   have e1:=ED.c 1 rfl
   have e2:=ED.c 2 rfl
   have e3:=ED.c 3 rfl
   have e4:=ED.c 4 rfl
   have e5:=ED.c 5 rfl
   have r0_:=RD.c 0 rfl
   have r1_:=RD.c 1 rfl
   have f0_:=RD.f 0 rfl
   have f1_:=RD.f 1 rfl
   have hC:=hmn _ hBD
   have HBD:=hid hBD
   have HGD:=hid hgD
   have HH:=hid hh2
   clear hh2
   clear hB2 hBD E2 R2 ED RD hmn hmw hg2 hgD HB
   obtain⟨M,hMM⟩:∃M,momT (tabD s.now (jat s.now zone).name) ⟨id,name,zone,wall,gap,fold⟩=M:=⟨_,rfl⟩
   have HMM:Hid (momD s.now ⟨id,name,zone,wall,gap,fold⟩=M):=(hMM)
   have hC2:Calls Tryz.prog 92 #[.agg #[.slice a s.now.rules.length ca,.slice b s.now.zones.length cb,.slice c s.now.links.length cc,.map (some nm)],.agg #[.int .i64 id,.string name,.string zone,.int .i64 wall,.int .i64 gap,.int .i64 fold]] WA.drew fun q w'=>q=.returned (.agg #[.int .i64 M.1,.bool M.2])/\Ze w' nm (nn+1) s.now/\WA.drew.grownBy w' (some nm):=hC.mono fun q w' hP=>⟨by rw[hP.ex,hMM],hP.cache,hP.grown⟩
   clear hC hMM
   go_region_held3 (fun w'=>w'.cell? ⟨bb,11,none⟩=some (.slice a s.now.rules.length ca)/\w'.cell? ⟨bb,12,none⟩=some (.slice b s.now.zones.length cb)/\w'.cell? ⟨bb,13,none⟩=some (.slice c s.now.links.length cc)/\w'.cell? ⟨bb,14,none⟩=some (.map (some nm))/\w'.cell? ⟨w.heap.size,0,none⟩=some (.int .i64 id)/\w'.cell? ⟨w.heap.size,1,none⟩=some (.string name)/\w'.cell? ⟨w.heap.size,2,none⟩=some (.string zone)/\w'.cell? ⟨w.heap.size,3,none⟩=some (.int .i64 wall)/\w'.cell? ⟨w.heap.size,4,none⟩=some (.int .i64 gap)/\w'.cell? ⟨w.heap.size,5,none⟩=some (.int .i64 fold)) (go_keep) ((go_at_call 92;refine hC2.mono ?_;rintro q w4 ⟨rfl,hcP,hgP⟩;have z11:=hgP.cell y11 (by simp;omega);have z12:=hgP.cell y12 (by simp;omega);have z13:=hgP.cell y13 (by simp;omega);have z14:=hgP.cell y14 (by simp;omega);have g0:=hgP.cell e0 (by simp;omega);have g1:=hgP.cell e1 (by simp;omega);have g2:=hgP.cell e2 (by simp;omega);have g3:=hgP.cell e3 (by simp;omega);have g4:=hgP.cell e4 (by simp;omega);have g5:=hgP.cell e5 (by simp;omega);have r0:=hgP.cell r0_ (by simp;omega);have r1:=hgP.cell r1_ (by simp;omega);have f0:=(hgP.frozen_far ⟨w.heap.size+1,0,none⟩ (qbl r0_) (by simp;omega)).trans f0_;have f1:=(hgP.frozen_far ⟨w.heap.size+1,1,none⟩ (qbl r1_) (by simp;omega)).trans f1_))
   all_goals
    have HP:Hid (BMomP X w0 s bb lb nm wm nn wn a b c d e f ca cb cc cd ce cf ⟨id,name,zone,wall,gap,fold⟩ w (.returned (.agg #[.int .i64 M.1,.bool M.2])) ((w4.setCell ⟨w.heap.size+1,0,none⟩ (.int .i64 M.1)).setCell ⟨w.heap.size+1,1,none⟩ (.bool M.2))):=by
     have k1:=HBD.out.grew_n hgP hcP
     have G7:=ja2 w4 (w.heap.size+1) (.int .i64 M.1) (.bool M.2)
     have Gw:w.grownBy ((w4.setCell ⟨w.heap.size+1,0,none⟩ (.int .i64 M.1)).setCell ⟨w.heap.size+1,1,none⟩ (.bool M.2)) (some nm):=((HGD.out.but _).andThen hgP (fun _ h=>.inr h)).andThen G7 (fun j h=>by injection h with h;omega)
     refine⟨by rw[HM.out,HMM.out],?_,nm,.inl rfl,Gw⟩
     have hw0:=k1.bel.size
     refine k1.grown G7 (by have:=HB0.out;omega) (by omega) (by omega) (by omega) (fun cs hc=>?_)
     rw[(hgP.block _ (qbl r0_) (by simp;omega)).trans HH.out]at hc
     injection hc with hc
     injection hc with _ hc _
     exact absurd hc (by decide)
    obtain⟨t0,t1⟩:=ja5 (v0:=.int .i64 M.1) (v1:=.bool M.2) r0 r1
    go_wp2
    exact bodyPost_ret (v:=.agg #[.int .i64 M.1,.bool M.2]) (by simp[results,Tryz.results58,go_sem,t0,t1]) rfl HP.out
end
section
open Go.RowKit Go.ChangeMaps Go.MapKept
structure SortC:Prop where
 go:∀(P:List EntryD) (base:Nat) (v:Value) (w:World),Zl w base v P->P.length<=1048576->Calls Tryz.prog 88 #[v,.func (.func 89) #[] #[]] w fun e w'=>e=.returned (.tuple #[])/\Zl w' base v (jhk P)/\w.grownBy w' v.ownBlock
structure MoK(F:Nat)(recv:Array Value)(g:EventD->Int × Bool)(Inv:Nat->World->Prop)(b B N:Nat):Prop where
 enter:∀args w,(callFunc F args).run Tryz.prog w=.ok (.enter F args) w
 call:∀k ev W,k<N->Inv k W->Calls Tryz.prog F (recv++#[ev.v]) W fun q W'=>q=.returned (.agg #[.int .i64 (g ev).1,.bool (g ev).2])/\Inv (k+1) W'/\∃x,x≠b/\(∃es c,W.heap[x]? =some (.map es c))/\W.grownBy W' (some x)
 below:∀k W W',Inv k W->Below W.heap.size W W'->Inv k W'
 row:∀k W W' x,Inv k W->W.grownBy W' (some x)->B<=x->(∀cs,W.heap[x]? ≠some (.cells cs 304 (0,0)))->Inv k W'
theorem MoK.own{F:Nat}{recv:Array Value}{g:EventD->Int × Bool}{Inv:Nat->World->Prop}{b B N:Nat}(h:MoK F recv g Inv b B N){k base:Nat}{W W':World}{v:Value}{P:List EntryD}(hI:Inv k W)(hO:Zl W base v P)(hg:W.grownBy W' v.ownBlock)(hB:B<=base):Inv k W':=by
 rcases hO.2 with⟨rfl,_⟩|⟨g2,cap,cur,rfl,hb,hh,_⟩
 ·exact h.below k W W' hI ⟨hg.os,hg.tape,hg.output,hg.size,fun j hj=>hg.block j hj (by simp[Value.ownBlock])⟩
 ·exact h.row k W W' g2 hI hg (by omega) (fun cs hc=>by rw[hh]at hc;injection hc with hc;injection hc with _ hc _;exact absurd hc (by decide))
theorem j5j{W W':World}{base x:Nat}{v:Value}{P:List EntryD}{es:Array MapEntry}{c:Nat}(hO:Zl W base v P)(hg:W.grownBy W' (some x))(hx:W.heap[x]? =some (.map es c)):Zl W' base v P:=
 World.ownsRow.kept hO hg (.inr fun h=>by
  rcases hO.2 with⟨rfl,_⟩|⟨g2,cap,cur,rfl,hb,hh,_⟩
  ·cases h
  ·injection h with h
   have h3:g2=x:=h
   rw[h3,hx]at hh
   cases hh)
theorem j3b{W W':World}{x p o:Nat}{u:Value}{es:Array MapEntry}{c:Nat}(hg:W.grownBy W' (some x))(hx:W.heap[x]? =some (.map es c))(h:W.cell? ⟨p,o,none⟩=some u):W'.cell? ⟨p,o,none⟩=some u:=
 hg.cell h (fun e=>by injection e with e;have h3:p=x:=e;rw[h3,jl3 hx]at h;cases h)
theorem j8v{W:World}{b r n cnt x:Nat}{D:DataW EventD}{left:Lit->Bool}{es:Array MapEntry}{c:Nat}(h:W.ranges Tryz.prog 2 jcb b r n D left cnt)(hx:W.heap[x]? =some (.map es c)):some r≠some x:=by
 obtain⟨_,_,_,_,_,_,_,_,_,hr,_⟩:=h
 intro e
 injection e with e
 rw[e,hx]at hr
 cases hr
theorem j56{W:World}{b r n cnt:Nat}{D:DataW EventD}{left:Lit->Bool}(h:W.ranges Tryz.prog 2 jcb b r n D left cnt):∀cs,W.heap[r]? ≠some (.cells cs 304 (0,0)):=by
 obtain⟨_,_,_,_,_,_,_,_,_,hr,_⟩:=h
 intro cs e
 rw[hr]at e
 cases e
structure EntS(f:Int->Option EventD)(g:EventD->Int × Bool)(left:Lit->Bool)(P:List EntryD):Prop where
 nd:P.Nodup
 mem:∀x,x∈P↔∃e,f e.id=some e/\left (.int .i64 e.id)=false/\(g e).2=true/\x=⟨(g e).1,e.id⟩
theorem EntS.no{f:Int->Option EventD}{g:EventD->Int × Bool}{left:Lit->Bool}{P:List EntryD}{c:EventD}(h:EntS f g left P)(hc:f c.id=some c)(hg:(g c).2=false):EntS f g (fun z=>left z&& !Lit.sameKey z (.int .i64 c.id)) P:=by
 refine⟨h.nd,fun x=>?_⟩
 rw[h.mem]
 constructor
 ·rintro⟨e,h1,h2,h3⟩
  exact⟨e,h1,by simp only[h2,Bool.false_and],h3⟩
 ·rintro⟨e,h1,h2,h3,h4⟩
  rcases jfw h2 with h|h
  ·exact⟨e,h1,h,h3,h4⟩
  ·rw[h,hc]at h1
   obtain rfl:=Option.some.inj h1
   rw[hg]at h3
   cases h3
theorem EntS.yes{f:Int->Option EventD}{g:EventD->Int × Bool}{left:Lit->Bool}{P:List EntryD}{c:EventD}(h:EntS f g left P)(hc:f c.id=some c)(hl:left (.int .i64 c.id)=true)(hg:(g c).2=true):EntS f g (fun z=>left z&& !Lit.sameKey z (.int .i64 c.id)) (P++[⟨(g c).1,c.id⟩]):=by
 refine⟨List.nodup_append.mpr ⟨h.nd,by simp,fun a ha b hb=>?_⟩,fun x=>?_⟩
 ·rw[List.mem_singleton]at hb
  subst hb
  intro e
  subst e
  obtain⟨e,_,h2,_,h4⟩:=(h.mem _).mp ha
  injection h4 with _ h4
  rw[<- h4,hl]at h2
  cases h2
 ·rw[List.mem_append,List.mem_singleton,h.mem]
  constructor
  ·rintro(⟨e,h1,h2,h3⟩|rfl)
   ·exact⟨e,h1,by simp only[h2,Bool.false_and],h3⟩
   ·exact⟨c,hc,by simp only[WideAt.sameKey_self (show WideAt.IsKeyLit (.int .i64 c.id)from trivial),Bool.not_true,Bool.and_false],hg,rfl⟩
  ·rintro⟨e,h1,h2,h3,h4⟩
   rcases jfw h2 with h|h
   ·exact .inl ⟨e,h1,h,h3,h4⟩
   ·rw[h,hc]at h1
    obtain rfl:=Option.some.inj h1
    exact .inr h4
theorem EntS.done{f:Int->Option EventD}{g:EventD->Int × Bool}{left:Lit->Bool}{P:List EntryD}{L:List EventD}(h:EntS f g left P)(hl:∀kl,left kl=false)(hT:Jc f L)(hL:L.Pairwise fun x y=>x.id<y.id):jhk P=entF g L:=j2l hT hL h.nd fun x=>by
 rw[h.mem]
 constructor
 ·rintro⟨e,h1,_,h3⟩
  exact⟨e,h1,h3⟩
 ·rintro⟨e,h1,h3⟩
  exact⟨e,h1,hl _,h3⟩
structure EntsP(Inv:Nat->World->Prop)(N b n:Nat)(f:Int->Option EventD)(X:List EntryD)(w:World)(q:Ending)(w':World):Prop where
 ex:∃v,q=.returned v/\Zl w' w.heap.size v X
 inv:∃k,k<=N/\Inv k w'
 live:Zg w' b n f
 size:w.heap.size<=w'.heap.size
end
section
open Go.RowKit Go.ChangeMaps Go.MapKept
theorem jel(hS:SortC){F:Nat}{recv:Array Value}{g:EventD->Int × Bool}{Inv:Nat->World->Prop}{b n:Nat}(f:Int->Option EventD)(L:List EventD)(w:World)(hK:MoK F recv g Inv b w.heap.size L.length)(hM:Zg w b n f)(hT:Jc f L)(hL:L.Pairwise fun x y=>x.id<y.id)(hl:L.length<=1000)(hI:Inv 0 w):
  Calls Tryz.prog 57 #[.map (some b),.func (.func F) recv #[]] w (EntsP Inv L.length b n f (entF g L) w):=by
 obtain⟨i0,hi,hz0,hz1,hz2⟩:=jnw
 have hbl:=hM.lt
 obtain⟨D,hown,hD⟩:=hM.own
 have hsz:Maps.size D=L.length:=jdo hown hD hT hL
 have hsz2:Maps.size D<=1000:=by omega
 have HZ:Hid (Maps.size D=L.length):=hsz
 have HT:=hid hT
 have HD:=hid hD
 have HU:=hid hL
 have hen:=hK.enter
 clear hsz hT hD hL hM
 generalize hNL:L.length=NL at *
 have HNL:=hid hNL
 clear hNL
 go_enter Tryz.func57,Tryz.ntmps57
 go_wp2_with (first
  |(at_range;refine wpList_range_own _ rfl _ 75 rfl 2 99 (Maps.int_keyed keyT) mapT jcb b n D rfl hown ?_;intro w0 hrg0 hg0 hz0')
  |go_in)
 go_frame
 have hI0:Inv 0 w0:=hK.below 0 w w0 hI ⟨hg0.os,hg0.tape,hg0.output,hg0.size,fun j hj=>hg0.block j hj (by simp)⟩
 go_loopw [5,7,8] (fun s5 _ _ wr=>∃(k:Nat) (P:List EntryD) (p:Option Addr) (m c:Nat) (left:Lit->Bool) (cnt:Nat),s5=.slice p m c/\k+cnt<=NL/\P.length<=k/\wr.ranges Tryz.prog 2 jcb b w.heap.size n D left cnt/\Zl wr (w.heap.size+1) (.slice p m c) P/\Inv k wr/\Hid (EntS f g left P)/\Hid (w.heap.size+1<=wr.heap.size)) (fun _ _ _ wr=>wr.rangeLeft b w.heap.size)
 case atStart=>exact⟨0,[],none,0,0,_,_,rfl,by rw[HZ.out];omega,by simp,hrg0,World.ownsRow_nil _ _ _ _,hI0,⟨List.nodup_nil,fun x=>⟨fun h=>by simp at h,fun⟨e,h1,h2,_⟩=>by rw[jgs HD.out h1]at h2;cases h2⟩⟩,by simp only[Hid];omega⟩
 case round=>
  obtain⟨wa,hwa⟩:∃x:World,x=wr:=⟨_,rfl⟩
  subst hwa
  obtain⟨k,P,p,m,c,left,cnt,rfl,hkc,hPk,hrg,hO,hIa,HE,HS⟩:=hrel
  clear hrg0 hg0 hz0' hI0 hown hI
  go_wp2_with (first
   |(at_next;refine wpList_next_ranges _ rfl _ rfl 2 (Maps.int_keyed keyT) jcb (Value.int .i64) (fun c:EventD=>Value.agg #[.int .i64 c.id,.string c.name,.string c.zone,.int .i64 c.wall,.int .i64 c.gap,.int .i64 c.fold]) (fun key kl hkey=>by(obtain⟨x,rfl,_⟩:=Maps.keyOf_int_inv keyT hkey;exact⟨x,rfl⟩)) (fun v y hv=>by(obtain⟨c,rfl,_⟩:=jb3 hv;exact⟨c,rfl⟩)) b w.heap.size n D left cnt rfl hrg ?_ ?_)
   |go_in)
  ·intro _ hl0
   have HX:Hid (jhk P=entF g L):=HE.out.done hl0 HT.out HU.out
   have hC:=hS.go P _ _ _ hO (by omega)
   have HI:Hid (∀w2,wa.grownBy w2 (Value.slice p m c).ownBlock->Inv k w2):=fun w2 h=>hK.own hIa hO h (by omega)
   go_wp2_with fail
   refine hC.mono ?_
   rintro e w2 ⟨rfl,hO2,hg2⟩
   have hI2:=HI.out w2 hg2
   have HO2:Hid (Zl w2 w.heap.size (.slice p m c) (entF g L)):=by rw[HX.out]at hO2;exact jb8 hO2 (by omega)
   have HL2:Hid (Zg w2 b n f):=by
    exact⟨D,hrg.owns.kept hg2 (fun e=>by have:=(World.ownsRow.lt hO b e.symm).1;omega),HD.out⟩
   go_wp2
   go_ret
   exact⟨⟨_,rfl,HO2.out⟩,⟨k,by omega,hI2⟩,HL2.out,by have:=HS.out;have:=hg2.size;omega⟩
  ·intro x c2 kl y ys w1 cnt1 hkey hlk hv1 hat hrg1 hlt hg1 hs1 hen1
   have HS1:=hid hs1
   clear hs1
   have HF:Hid (f x=some c2/\c2.id=x/\kl=.int .i64 x):=by
    obtain⟨x',ex,rfl,_⟩:=Maps.keyOf_int_inv keyT hkey
    cases ex
    obtain⟨c',ec,ez⟩:=jb3 hv1
    simp only[Prod.mk.injEq]at ez
    obtain⟨rfl,_⟩:=ez
    have:c'=c2:=by cases c2;cases c';simp only[EventD.v,Value.agg.injEq]at ec;simp_all
    subst this
    have h1:=jpu HD.out hat
    exact⟨h1,HT.out.id _ _ h1,rfl⟩
   have hI1:Inv k w1:=hK.row k wa w1 w.heap.size hIa hg1 (Nat.le_refl _) (j56 hrg)
   have hO1:Zl w1 (w.heap.size+1) (.slice p m c) P:=World.ownsRow.kept hO hg1 (.inr fun h=>by have:=(World.ownsRow.lt hO _ h).1;omega)
   have b2:=qal w1 (.cells #[.int .i64 c2.id,.string c2.name,.string c2.zone,.int .i64 c2.wall,.int .i64 c2.gap,.int .i64 c2.fold] 99)
   have hI2:Inv k (w1.alloc (.cells #[.int .i64 c2.id,.string c2.name,.string c2.zone,.int .i64 c2.wall,.int .i64 c2.gap,.int .i64 c2.fold] 99)):=hK.below _ _ _ hI1 b2
   have hO2:Zl (w1.alloc (.cells #[.int .i64 c2.id,.string c2.name,.string c2.zone,.int .i64 c2.wall,.int .i64 c2.gap,.int .i64 c2.fold] 99)) (w.heap.size+1) (.slice p m c) P:=World.ownsRow.alloc hO1 _
   have hrg2:=hrg1.alloc (.cells #[.int .i64 c2.id,.string c2.name,.string c2.zone,.int .i64 c2.wall,.int .i64 c2.gap,.int .i64 c2.fold] 99)
   obtain⟨e0,e1,e2,e3,e4,e5⟩:(fun z:World=>z.cell? ⟨w1.heap.size,0,none⟩=some (.int .i64 c2.id)/\z.cell? ⟨w1.heap.size,1,none⟩=some (.string c2.name)/\z.cell? ⟨w1.heap.size,2,none⟩=some (.string c2.zone)/\z.cell? ⟨w1.heap.size,3,none⟩=some (.int .i64 c2.wall)/\z.cell? ⟨w1.heap.size,4,none⟩=some (.int .i64 c2.gap)/\z.cell? ⟨w1.heap.size,5,none⟩=some (.int .i64 c2.fold)) (w1.alloc (.cells #[.int .i64 c2.id,.string c2.name,.string c2.zone,.int .i64 c2.wall,.int .i64 c2.gap,.int .i64 c2.fold] 99)):=by simp[go_sem]
   obtain⟨⟨M1,M2⟩,hM⟩:∃M,g c2=M:=⟨_,rfl⟩
   have HM:=hid hM
   have hC:=hK.call k c2 (w1.alloc (.cells #[.int .i64 c2.id,.string c2.name,.string c2.zone,.int .i64 c2.wall,.int .i64 c2.gap,.int .i64 c2.fold] 99)) (by omega) hI2
   rw[hM]at hC
   simp only[EventD.v]at hC
   have HLK:=hid hlk
   have HLT:=hid hlt
   have hkc1:k+1+cnt1<=NL:=by omega
   have HS2:Hid (w.heap.size+1<=(w1.alloc (.cells #[.int .i64 c2.id,.string c2.name,.string c2.zone,.int .i64 c2.wall,.int .i64 c2.gap,.int .i64 c2.fold] 99)).heap.size):=by have h1:=HS.out;have h2:=b2.size;have h3:=HS1.out;simp only[Hid];omega
   clear hM hv1 hat hkey hg1 hI1 hO1 hI2 b2 hlk hlt hkc
   go_wp2_with fail
   refine hC.mono ?_
   rintro q w3 ⟨rfl,hI3,xx,hxb,⟨es,cl,hxm⟩,hg3⟩
   have hrg3:=hrg2.kept hg3 (by simpa using Ne.symm hxb) (j8v hrg2 hxm)
   have hO3:=j5j hO2 hg3 hxm
   have i3:=j3b hg3 hxm e0
   have HS3:Hid (w.heap.size+1<=w3.heap.size):=Nat.le_trans HS2.out hg3.size
   have b4:=qal w3 (.cells #[.int .i64 M1,.bool M2] 152)
   have hI4:Inv (k+1) (w3.alloc (.cells #[.int .i64 M1,.bool M2] 152)):=hK.below _ _ _ hI3 b4
   have hO4:Zl (w3.alloc (.cells #[.int .i64 M1,.bool M2] 152)) (w.heap.size+1) (.slice p m c) P:=World.ownsRow.alloc hO3 _
   have hrg4:=hrg3.alloc (.cells #[.int .i64 M1,.bool M2] 152)
   have i4:=jab b4 i3
   have HS4:Hid (w.heap.size+1<=(w3.alloc (.cells #[.int .i64 M1,.bool M2] 152)).heap.size):=Nat.le_trans HS3.out b4.size
   clear hrg3 hO3 i3 hI3 b4 hg3 hxm hrg2 hO2 e0 e1 e2 e3 e4 e5 hC
   cases M2
   ·have HE2:Hid (EntS f g (fun z=>left z&& !Lit.sameKey z kl) P):=by
     have h:=HF.out
     rw[h.2.2, <- h.2.1]
     exact HE.out.no (by rw[h.2.1];exact h.1) (by rw[HM.out])
    go_wp2
    go_roundw
    case rel=>exact⟨k+1,P,p,m,c,_,cnt1,rfl,hkc1,by omega,hrg4,hO4,hI4,HE2,HS4⟩
    case measure=>rw[hrg4.left_eq,hrg.left_eq];exact HLT.out
   ·have HE2:Hid (EntS f g (fun z=>left z&& !Lit.sameKey z kl) (P++[⟨M1,c2.id⟩])):=by
     have h:=HF.out
     have h2:=HE.out.yes (c:=c2) (by rw[h.2.1];exact h.1) (by rw[h.2.1, <- h.2.2];exact HLK.out) (by rw[HM.out])
     rw[HM.out,h.2.1, <- h.2.2]at h2
     rw[h.2.1]
     exact h2
    have HI5:Hid (Inv (k+1) ((w3.alloc (.cells #[.int .i64 M1,.bool true] 152)).alloc (.cells #[.int .i64 M1,.int .i64 c2.id] 108))):=hK.below _ _ _ hI4 (qal _ _)
    have hO5:Zl ((w3.alloc (.cells #[.int .i64 M1,.bool true] 152)).alloc (.cells #[.int .i64 M1,.int .i64 c2.id] 108)) (w.heap.size+1) (.slice p m c) P:=World.ownsRow.alloc hO4 _
    have hrg5:=hrg4.alloc (.cells #[.int .i64 M1,.int .i64 c2.id] 108)
    have HS5:Hid (w.heap.size+1<=((w3.alloc (.cells #[.int .i64 M1,.bool true] 152)).alloc (.cells #[.int .i64 M1,.int .i64 c2.id] 108)).heap.size):=Nat.le_trans HS4.out (qal _ _).size
    have HO5:=hid hO5
    have HR5:=hid hrg5
    clear hI4 hO4 hrg4 HS4 hrg5
    go_wp2_with (first|(at_builtin;refine wpList_append_own _ rfl _ _ 58 rfl (w.heap.size+1) 108 i0 (.agg #[.int .i64 0,.int .i64 0]) 2 16 Tryz.underlying58 hi hz0 hz1 hz2 rfl (by decide) _ _ _ rfl hO5 ⟨w3.heap.size+1,0,none⟩ 1 1 [.int .i64 M1,.int .i64 c2.id] rfl rfl ?b1 ?b2 ?b3 ?b4 ?b5 ?_)|fail)
    case b1=>have h:=ja3 (w3.alloc (.cells #[.int .i64 M1,.bool true] 152)) [.int .i64 M1,.int .i64 c2.id] 108;simpa using h
    case b2=>intro u hu;simp at hu;rcases hu with rfl|rfl<;>rfl
    case b3=>unfold maxLen;omega
    case b4=>omega
    case b5=>exact HS5.out
    intro v6 w6 hown6 hgrow6 _
    obtain⟨p6,m6,c6,rfl⟩:=jaq hown6
    have HO6:Hid (Zl w6 (w.heap.size+1) (.slice p6 m6 c6) (P++[⟨M1,c2.id⟩])):=by
     simp only[Hid]
     unfold Zl
     rw[List.length_append,List.map_append,List.flatten_append]
     simpa [EntryD.cs]using hown6
    have HI6:Hid (Inv (k+1) w6):=hK.own HI5.out HO5.out hgrow6 (by omega)
    have HR6:Hid (w6.ranges Tryz.prog 2 jcb b w.heap.size n D (fun z=>left z&& !Lit.sameKey z kl) cnt1):=HR5.out.kept hgrow6 (fun e=>by have:=(World.ownsRow.lt HO5.out b e.symm).1;omega) (fun e=>by have:=(World.ownsRow.lt HO5.out _ e.symm).1;omega)
    have HS6:Hid (w.heap.size+1<=w6.heap.size):=Nat.le_trans HS5.out hgrow6.size
    clear hown6 hgrow6 hO5
    go_wp2
    go_roundw
    case rel=>exact⟨k+1,_,p6,m6,c6,_,cnt1,rfl,hkc1,by simp;omega,HR6.out,HO6.out,HI6.out,HE2,HS6⟩
    case measure=>rw[HR6.out.left_eq,hrg.left_eq];exact HLT.out
end
section
open Go.RowKit Go.ChangeMaps Go.MapKept Go.WideMaps
theorem jan{w:World}{b n:Nat}{r:RelD}(h:Ze w b n r):∃es c,w.heap[b]? =some (.map es c):=by
 obtain⟨D,⟨es,clock,hb,_⟩,_⟩:=h.own
 exact⟨es,clock,hb⟩
theorem j3d{X:List (Nat × Value)}(w0:World)(s:Za)(bb lb nm wm B N:Nat)(a b c d e f:Option Addr)(ca cb cc cd ce cf:Nat)(hE:Zm w0)(hN:Zi w0 (.agg #[.slice a s.now.rules.length ca,.slice b s.now.zones.length cb,.slice c s.now.links.length cc]) s.now)(hW:Zi w0 (.agg #[.slice d s.was.rules.length cd,.slice e s.was.zones.length ce,.slice f s.was.links.length cf]) s.was)(ok:Zr s.now)(ok2:Zr s.was)(hr:relB s.now=true)(hr2:relB s.was=true)(hB:w0.heap.size<=B)(h1:bb<B)(h2:nm<B)(h3:wm<B)(h4:nm≠lb)(h5:wm≠lb)(hNl:N<=1000):
  MoK 58 #[.pointer (some ⟨bb,0,none⟩)] (momB s) (fun k W=>Zj X w0 W s bb lb nm wm k k a b c d e f ca cb cc cd ce cf) lb B N where
 enter:=fun _ _=>by kernel_rfl
 call:=fun k ev W hk hI=>(jjn w0 s bb lb nm wm k k a b c d e f ca cb cc cd ce cf ev W hE hN hW ok ok2 hr hr2 hI (by omega) (by omega)).mono fun q W' hP=>⟨hP.ex,hP.book,by
  obtain⟨g,hg,hgr⟩:=hP.grown
  rcases hg with rfl|rfl
  ·exact⟨_,h4,jan hI.cn,hgr⟩
  ·exact⟨_,h5,jan hI.cw,hgr⟩⟩
 below:=fun k W W' hI hb=>hI.below hb
 row:=fun k W W' x hI hg hx ht=>hI.grown hg (by omega) (by omega) (by omega) (by omega) ht
theorem jh0(hS:SortC){X:List (Nat × Value)}(w0:World)(s:Za)(bb lb nm wm n:Nat)(a b c d e f:Option Addr)(ca cb cc cd ce cf:Nat)(F:Int->Option EventD)(L:List EventD)(w:World)(hE:Zm w0)(hN:Zi w0 (.agg #[.slice a s.now.rules.length ca,.slice b s.now.zones.length cb,.slice c s.now.links.length cc]) s.now)(hW:Zi w0 (.agg #[.slice d s.was.rules.length cd,.slice e s.was.zones.length ce,.slice f s.was.links.length cf]) s.was)(ok:Zr s.now)(ok2:Zr s.was)(hr:relB s.now=true)(hr2:relB s.was=true)(hB:Zj X w0 w s bb lb nm wm 0 0 a b c d e f ca cb cc cd ce cf)(h4:nm≠lb)(h5:wm≠lb)(hM:Zg w lb n F)(hT:Jc F L)(hL:L.Pairwise fun x y=>x.id<y.id)(hl:L.length<=1000):
  Calls Tryz.prog 40 #[.pointer (some ⟨bb,0,none⟩)] w (EntsP (fun k W=>Zj X w0 W s bb lb nm wm k k a b c d e f ca cb cc cd ce cf) L.length lb n F (entF (momB s) L) w):=by
 have hK:=j3d (X:=X) w0 s bb lb nm wm w.heap.size L.length a b c d e f ca cb cc cd ce cf hE hN hW ok ok2 hr hr2 hB.bel.size (qbl hB.cur) hB.cn.lt hB.cw.lt h4 h5 hl
 have hC:=jel hS F L w hK hM hT hL hl hB
 have x10:=hB.live
 clear hK hB hE hN hW ok ok2 hr hr2 hM hT hL
 go_enter Tryz.func40,Tryz.ntmps40
 go_wp2_with fail
 refine hC.mono ?_
 rintro q w2 hP
 obtain⟨v,rfl,hO⟩:=hP.ex
 go_wp2
 go_ret
 exact hP
end
end Go.Proofs.YtofdpfpdocpbpaaGreatDoor
