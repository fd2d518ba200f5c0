/- Packed. -/
import Derived.Test.YtofdpfpdocpbpaaGreatDoorKEd
import Derived.Test.YtofdpfpdocpbpaaGreatDoorSHd
import Derived.Test.YtofdpfpdocpbpaaGreatDoorFiPd
import Derived.Test.YtofdpfpdocpbpaaGreatDoorAHd
set_option maxRecDepth 20000
set_option maxHeartbeats 20000000
set_option linter.unusedSimpArgs false
namespace Go.Proofs.YtofdpfpdocpbpaaGreatDoor
section
open Go.RowKit Go.ChangeMaps Go.MapKept Go.WideMaps
structure Zf(B:Nat)(Rs:List (Value × RelD))(X:List (Nat × Value))(w0 w:World)(s:Za)(bb lb nm wm nn wn:Nat)(a b c d e f:Option Addr)(ca cb cc cd ce cf:Nat):Prop where
 bel:Below w0.heap.size w0 w
 cur:w.cell? ⟨bb,7,none⟩=some (.int .i64 s.cur)
 live:w.cell? ⟨bb,10,none⟩=some (.map (some lb))
 n0:w.cell? ⟨bb,11,none⟩=some (.slice a s.now.rules.length ca)
 n1:w.cell? ⟨bb,12,none⟩=some (.slice b s.now.zones.length cb)
 n2:w.cell? ⟨bb,13,none⟩=some (.slice c s.now.links.length cc)
 n3:w.cell? ⟨bb,14,none⟩=some (.map (some nm))
 w1:w.cell? ⟨bb,15,none⟩=some (.slice d s.was.rules.length cd)
 w2:w.cell? ⟨bb,16,none⟩=some (.slice e s.was.zones.length ce)
 w3:w.cell? ⟨bb,17,none⟩=some (.slice f s.was.links.length cf)
 w4:w.cell? ⟨bb,18,none⟩=some (.map (some wm))
 cn:Ze w nm nn s.now
 cw:Ze w wm wn s.was
 ne:nm≠wm
 bn:w0.heap.size<=nm
 bw:w0.heap.size<=wm
 more:∀p∈X,w.cell? ⟨bb,p.1,none⟩=some p.2
 blk:∃cs,w.heap[bb]? =some (.cells cs 85 (0,0))
 rn:Ja B w (.agg #[.slice a s.now.rules.length ca,.slice b s.now.zones.length cb,.slice c s.now.links.length cc]) s.now
 rw:Ja B w (.agg #[.slice d s.was.rules.length cd,.slice e s.was.zones.length ce,.slice f s.was.links.length cf]) s.was
 bB:bb<B
 nB:nm<B
 wB:wm<B
 rs:∀y∈Rs,Ja B w y.1 y.2
theorem jgp{w:World}{b n:Nat}{r:RelD}(h:Ze w b n r):∀cs t,w.heap[b]? =some (.cells cs t (0,0))->¬relT t:=fun cs t hc=>by
 obtain⟨D,⟨es,clock,hb,_⟩,_⟩:=h.own
 rw[hb]at hc
 cases hc
theorem Zf.below{B:Nat}{Rs:List (Value × RelD)}{X:List (Nat × Value)}{w0 w w':World}{s:Za}{bb lb nm wm nn wn:Nat}{a b c d e f:Option Addr}{ca cb cc cd ce cf:Nat}(h:Zf B Rs X w0 w s bb lb nm wm nn wn a b c d e f ca cb cc cd ce cf)(hb:Below w.heap.size w w'):Zf B Rs X w0 w' s bb lb nm wm nn wn a b c d e f ca cb cc cd ce cf:=
 ⟨h.bel.trans (hb.mono h.bel.size),jab hb h.cur,jab hb h.live,jab hb h.n0,jab hb h.n1,jab hb h.n2,jab hb h.n3,jab hb h.w1,jab hb h.w2,jab hb h.w3,jab hb h.w4,h.cn.below hb,h.cw.below hb,h.ne,h.bn,h.bw,fun p hp=>jab hb (h.more p hp),by
  obtain⟨cs,h1⟩:=h.blk
  exact⟨cs,(hb.block bb (qbl h.cur)).trans h1⟩,h.rn.below hb,h.rw.below hb,h.bB,h.nB,h.wB,fun y hy=>(h.rs y hy).below hb⟩
theorem Zf.ne_n{B:Nat}{Rs:List (Value × RelD)}{X:List (Nat × Value)}{w0 w:World}{s:Za}{bb lb nm wm nn wn:Nat}{a b c d e f:Option Addr}{ca cb cc cd ce cf:Nat}(h:Zf B Rs X w0 w s bb lb nm wm nn wn a b c d e f ca cb cc cd ce cf):bb≠nm:=fun he=>by(have:=h.cn.cell 7;rw[<- he,h.cur]at this;cases this)
theorem Zf.ne_w{B:Nat}{Rs:List (Value × RelD)}{X:List (Nat × Value)}{w0 w:World}{s:Za}{bb lb nm wm nn wn:Nat}{a b c d e f:Option Addr}{ca cb cc cd ce cf:Nat}(h:Zf B Rs X w0 w s bb lb nm wm nn wn a b c d e f ca cb cc cd ce cf):bb≠wm:=fun he=>by(have:=h.cw.cell 7;rw[<- he,h.cur]at this;cases this)
theorem jq5{w0 w w':World}{g:Nat}(h:Below w0.heap.size w0 w)(hg:w.grownBy w' (some g))(hb:w0.heap.size<=g):Below w0.heap.size w0 w':=h.grown hg h.size (fun k hk=>by injection hk with hk;omega)
theorem Zf.grown{B:Nat}{Rs:List (Value × RelD)}{X:List (Nat × Value)}{w0 w w':World}{g:Nat}{s:Za}{bb lb nm wm nn wn:Nat}{a b c d e f:Option Addr}{ca cb cc cd ce cf:Nat}(h:Zf B Rs X w0 w s bb lb nm wm nn wn a b c d e f ca cb cc cd ce cf)(hg:w.grownBy w' (some g))(hb:w0.heap.size<=g)(hgB:B<=g)(h1:bb≠g)(h2:nm≠g)(h3:wm≠g)(hne:∀cs,w.heap[g]? ≠some (.cells cs 304 (0,0))):Zf B Rs X w0 w' s bb lb nm wm nn wn a b c d e f ca cb cc cd ce cf:=by
 have k:some bb≠some g:=by simpa using h1
 exact⟨jq5 h.bel hg hb,hg.cell h.cur k,hg.cell h.live k,hg.cell h.n0 k,hg.cell h.n1 k,hg.cell h.n2 k,hg.cell h.n3 k,hg.cell h.w1 k,hg.cell h.w2 k,hg.cell h.w3 k,hg.cell h.w4 k,h.cn.grown hg h2 hne,h.cw.grown hg h3 hne,h.ne,h.bn,h.bw,fun p hp=>hg.cell (h.more p hp) k,by
  obtain⟨cs,h1⟩:=h.blk
  exact⟨cs,(hg.block bb (qbl h.cur) k).trans h1⟩,h.rn.kept (Zp.grown h.rn.le hg (.inl hgB)) hg.size,h.rw.kept (Zp.grown h.rw.le hg (.inl hgB)) hg.size,h.bB,h.nB,h.wB,fun y hy=>(h.rs y hy).kept (Zp.grown h.rn.le hg (.inl hgB)) hg.size⟩
theorem jln{w:World}{b n:Nat}{r:RelD}(h:Ze w b n r):∀cs,w.heap[b]? ≠some (.cells cs 304 (0,0)):=fun cs hc=>h.blk b cs hc rfl
theorem Zf.grew_n{B:Nat}{Rs:List (Value × RelD)}{X:List (Nat × Value)}{w0 w w':World}{s:Za}{bb lb nm wm nn wn:Nat}{a b c d e f:Option Addr}{ca cb cc cd ce cf:Nat}(h:Zf B Rs X w0 w s bb lb nm wm nn wn a b c d e f ca cb cc cd ce cf)(hg:w.grownBy w' (some nm))(hc:Ze w' nm (nn+1) s.now):Zf B Rs X w0 w' s bb lb nm wm (nn+1) (wn+1) a b c d e f ca cb cc cd ce cf:=by
 have k:some bb≠some nm:=by simpa using h.ne_n
 exact⟨jq5 h.bel hg h.bn,hg.cell h.cur k,hg.cell h.live k,hg.cell h.n0 k,hg.cell h.n1 k,hg.cell h.n2 k,hg.cell h.n3 k,hg.cell h.w1 k,hg.cell h.w2 k,hg.cell h.w3 k,hg.cell h.w4 k,hc,(h.cw.grown hg (Ne.symm h.ne) (jln h.cn)).mono (by omega),h.ne,h.bn,h.bw,fun p hp=>hg.cell (h.more p hp) k,by
  obtain⟨cs,h1⟩:=h.blk
  exact⟨cs,(hg.block bb (qbl h.cur) k).trans h1⟩,h.rn.kept (Zp.grown h.rn.le hg (.inr (jgp h.cn))) hg.size,h.rw.kept (Zp.grown h.rw.le hg (.inr (jgp h.cn))) hg.size,h.bB,h.nB,h.wB,fun y hy=>(h.rs y hy).kept (Zp.grown h.rn.le hg (.inr (jgp h.cn))) hg.size⟩
theorem Zf.grew_w{B:Nat}{Rs:List (Value × RelD)}{X:List (Nat × Value)}{w0 w w':World}{s:Za}{bb lb nm wm nn wn:Nat}{a b c d e f:Option Addr}{ca cb cc cd ce cf:Nat}(h:Zf B Rs X w0 w s bb lb nm wm nn wn a b c d e f ca cb cc cd ce cf)(hg:w.grownBy w' (some wm))(hc:Ze w' wm (wn+1) s.was):Zf B Rs X w0 w' s bb lb nm wm (nn+1) (wn+1) a b c d e f ca cb cc cd ce cf:=by
 have k:some bb≠some wm:=by simpa using h.ne_w
 exact⟨jq5 h.bel hg h.bw,hg.cell h.cur k,hg.cell h.live k,hg.cell h.n0 k,hg.cell h.n1 k,hg.cell h.n2 k,hg.cell h.n3 k,hg.cell h.w1 k,hg.cell h.w2 k,hg.cell h.w3 k,hg.cell h.w4 k,(h.cn.grown hg h.ne (jln h.cw)).mono (by omega),hc,h.ne,h.bn,h.bw,fun p hp=>hg.cell (h.more p hp) k,by
  obtain⟨cs,h1⟩:=h.blk
  exact⟨cs,(hg.block bb (qbl h.cur) k).trans h1⟩,h.rn.kept (Zp.grown h.rn.le hg (.inr (jgp h.cw))) hg.size,h.rw.kept (Zp.grown h.rw.le hg (.inr (jgp h.cw))) hg.size,h.bB,h.nB,h.wB,fun y hy=>(h.rs y hy).kept (Zp.grown h.rn.le hg (.inr (jgp h.cw))) hg.size⟩
structure BMomB(B:Nat)(Rs:List (Value × RelD))(X:List (Nat × Value))(w0:World)(s:Za)(bb lb nm wm nn wn:Nat)(a b c d e f:Option Addr)(ca cb cc cd ce cf:Nat)(ev:EventD)(w:World)(q:Ending)(w':World):Prop where
 ex:q=.returned (.agg #[.int .i64 (momB s ev).1,.bool (momB s ev).2])
 book:Zf B Rs X w0 w' s bb lb nm wm (nn+1) (wn+1) a b c d e f ca cb cc cd ce cf
 grown:∃g,(g=nm\/g=wm)/\w.grownBy w' (some g)
theorem jnj{s:Za}{e:EventD}(h:s.cur=0\/e.id<s.cur):momB s e=momD s.now e:=if_pos h
theorem jw6{s:Za}{e:EventD}(h:¬(s.cur=0\/e.id<s.cur)):momB s e=momD s.was e:=if_neg h
theorem jbn(w:World)(n:Nat):Below w.heap.size w (w.drewN n):=⟨rfl,rfl,rfl,Nat.le_refl _,fun _ _=>rfl⟩
theorem jhz{B:Nat}{Rs:List (Value × RelD)}{X:List (Nat × Value)}(w0:World)(s:Za)(bb lb nm wm nn wn:Nat)(a b c d e f:Option Addr)(ca cb cc cd ce cf:Nat)(ev:EventD)(w:World)(hE:Zm w0)(ok:Zr s.now)(ok2:Zr s.was)(hr:relB s.now=true)(hr2:relB s.was=true)(hB:Zf B Rs X w0 w s bb lb nm wm nn wn a b c d e f ca cb cc cd ce cf)(hnn:nn<=1048576)(hwn:wn<=1048576):
  Calls Tryz.prog 58 #[.pointer (some ⟨bb,0,none⟩),ev.v] w (BMomB B Rs X w0 s bb lb nm wm nn wn a b c d e f ca cb cc cd ce cf ev w):=by
 have HB:=hid hB
 have b1:Below w.heap.size w ((w.alloc (.cells #[.int .i64 ev.id,.string ev.name,.string ev.zone,.int .i64 ev.wall,.int .i64 ev.gap,.int .i64 ev.fold] 99)).alloc (.cells #[.int .i64 0,.bool false] 152)):=(qal _ _).alloc (by simp) _
 have hB1:=hB.below b1
 obtain⟨id,name,zone,wall,gap,fold⟩:=ev
 simp only[EventD.v]at *
 have hbb:bb<w.heap.size:=qbl hB.cur
 have E0:Zc ((w.alloc (.cells #[.int .i64 id,.string name,.string zone,.int .i64 wall,.int .i64 gap,.int .i64 fold] 99)).alloc (.cells #[.int .i64 0,.bool false] 152)) w.heap.size [.int .i64 id,.string name,.string zone,.int .i64 wall,.int .i64 gap,.int .i64 fold]:=(Zc.new w [.int .i64 id,.string name,.string zone,.int .i64 wall,.int .i64 gap,.int .i64 fold] 99).below (qal _ _)
 have R0:Zc ((w.alloc (.cells #[.int .i64 id,.string name,.string zone,.int .i64 wall,.int .i64 gap,.int .i64 fold] 99)).alloc (.cells #[.int .i64 0,.bool false] 152)) (w.heap.size+1) [.int .i64 0,.bool false]:=by have h:=Zc.new (w.alloc (.cells #[.int .i64 id,.string name,.string zone,.int .i64 wall,.int .i64 gap,.int .i64 fold] 99)) [.int .i64 0,.bool false] 152;simpa using h
 have hgW:=jag b1
 have hh1:((w.alloc (.cells #[.int .i64 id,.string name,.string zone,.int .i64 wall,.int .i64 gap,.int .i64 fold] 99)).alloc (.cells #[.int .i64 0,.bool false] 152)).heap[w.heap.size+1]? =some (Obj.cells #[.int .i64 0,.bool false] 152):=by
  have h:=heap_alloc_new (w.alloc (.cells #[.int .i64 id,.string name,.string zone,.int .i64 wall,.int .i64 gap,.int .i64 fold] 99)) (.cells #[.int .i64 0,.bool false] 152)
  have e:(w.alloc (.cells #[.int .i64 id,.string name,.string zone,.int .i64 wall,.int .i64 gap,.int .i64 fold] 99)).heap.size=w.heap.size+1:=by simp
  rw[e]at h
  exact h
 have nb1:¬bb=w.heap.size+1:=by omega
 have nb2:¬w.heap.size+1=bb:=by omega
 have nd:=hB.ne_n
 have nw:=hB.ne_w
 have ln:=hB.cn.lt
 have lw:=hB.cw.lt
 have hmn:∀W:World,Zf B Rs X w0 W s bb lb nm wm nn wn a b c d e f ca cb cc cd ce cf->Calls Tryz.prog 92 #[.agg #[.slice a s.now.rules.length ca,.slice b s.now.zones.length cb,.slice c s.now.links.length cc,.map (some nm)],.agg #[.int .i64 id,.string name,.string zone,.int .i64 wall,.int .i64 gap,.int .i64 fold]] W (MomP s.now ⟨id,name,zone,wall,gap,fold⟩ nm nn W):=fun W h=>jby s.now a b c ca cb cc nm nn ⟨id,name,zone,wall,gap,fold⟩ W (hE.of_below h.bel) h.rn.at ok hr h.cn hnn
 have hmw:∀W:World,Zf B Rs X w0 W s bb lb nm wm nn wn a b c d e f ca cb cc cd ce cf->Calls Tryz.prog 92 #[.agg #[.slice d s.was.rules.length cd,.slice e s.was.zones.length ce,.slice f s.was.links.length cf,.map (some wm)],.agg #[.int .i64 id,.string name,.string zone,.int .i64 wall,.int .i64 gap,.int .i64 fold]] W (MomP s.was ⟨id,name,zone,wall,gap,fold⟩ wm wn W):=fun W h=>jby s.was d e f cd ce cf wm wn ⟨id,name,zone,wall,gap,fold⟩ W (hE.of_below h.bel) h.rw.at ok2 hr2 h.cw hwn
 have HB0:=hid hB.bel.size
 have HBB:=hid hB.rn.le
 clear hE ok ok2 hr hr2 hB
 have c7:=hB1.cur
 have i0:=E0.c 0 rfl
 go_enter Tryz.func58,Tryz.ntmps58
 go_upto_region 1 with fail
 go_cut [20]from 5 to 19 (fun s20 wx=>∃(bo:Bool) (nq:Nat),s20=.bool bo/\wx=((w.alloc (.cells #[.int .i64 id,.string name,.string zone,.int .i64 wall,.int .i64 gap,.int .i64 fold] 99)).alloc (.cells #[.int .i64 0,.bool false] 152)).drewN nq/\Hid (momB s ⟨id,name,zone,wall,gap,fold⟩=if bo=true then momD s.now ⟨id,name,zone,wall,gap,fold⟩else momD s.was ⟨id,name,zone,wall,gap,fold⟩))
 case first=>
  by_cases h1:s.cur=0
  ·have HM:Hid (momB s ⟨id,name,zone,wall,gap,fold⟩=momD s.now ⟨id,name,zone,wall,gap,fold⟩):=jnj (.inl h1)
   rw[h1]at c7
   clear h1
   go_quiet (fail)
   go_wp2
   go_meet
   exact⟨true,nq,rfl,rfl,HM.out⟩
  obtain⟨cu,hcu⟩:∃x,s.cur=x:=⟨_,rfl⟩
  by_cases h2:id<s.cur
  ·have HM:Hid (momB s ⟨id,name,zone,wall,gap,fold⟩=momD s.now ⟨id,name,zone,wall,gap,fold⟩):=jnj (.inr h2)
   rw[hcu]at c7 h1 h2
   have h1b:(cu==0)=false:=by simp[h1]
   have h2b:decide (id<cu)=true:=by simp;omega
   clear hcu h1 h2
   go_quiet (fail)
   go_wp2
   go_meet
   exact⟨true,nq,rfl,rfl,HM.out⟩
  ·have HM:Hid (momB s ⟨id,name,zone,wall,gap,fold⟩=momD s.was ⟨id,name,zone,wall,gap,fold⟩):=jw6 (fun h=>h.elim h1 h2)
   rw[hcu]at c7 h1 h2
   have h1b:(cu==0)=false:=by simp[h1]
   have h2b:decide (id<cu)=false:=by simp;omega
   clear hcu h1 h2
   go_quiet (fail)
   go_wp2
   go_meet
   exact⟨false,nq,rfl,rfl,HM.out⟩
 case rest=>
  obtain⟨bo,nq,rfl,rfl,HM⟩:=hcut
  cases bo
  ·replace HM:Hid (momB s ⟨id,name,zone,wall,gap,fold⟩=momD s.was ⟨id,name,zone,wall,gap,fold⟩):=HM.out.trans (if_neg (by simp))
   go_wp2_with fail
   have hB2:=hB1.below (jbn _ nq)
   have E2:=E0.below (jbn _ nq)
   have R2:=R0.below (jbn _ nq)
   have hg2:=hgW.trans (jag (jbn _ nq))
   have hh2:(((w.alloc (.cells #[.int .i64 id,.string name,.string zone,.int .i64 wall,.int .i64 gap,.int .i64 fold] 99)).alloc (.cells #[.int .i64 0,.bool false] 152)).drewN nq).heap[w.heap.size+1]? =some (Obj.cells #[.int .i64 0,.bool false] 152):=hh1
   clear hB1 E0 R0 hgW c7 b1 hh1
   generalize ((w.alloc (.cells #[.int .i64 id,.string name,.string zone,.int .i64 wall,.int .i64 gap,.int .i64 fold] 99)).alloc (.cells #[.int .i64 0,.bool false] 152)).drewN nq=WA at *
   have hBD:Zf B Rs X w0 WA.drew s bb lb nm wm nn wn a b c d e f ca cb cc cd ce cf:=hB2.below (jaa WA)
   have ED:Zc WA.drew w.heap.size [.int .i64 id,.string name,.string zone,.int .i64 wall,.int .i64 gap,.int .i64 fold]:=E2
   have RD:Zc WA.drew (w.heap.size+1) [.int .i64 0,.bool false]:=R2
   have hgD:w.grownBy WA.drew none:=hg2.trans (jag (jaa WA))
   have y15:=hBD.w1
   have y16:=hBD.w2
   have y17:=hBD.w3
   have y18:=hBD.w4
   have e0:=ED.c 0 rfl
   have e1:=ED.c 1 rfl
   have e2:=ED.c 2 rfl
   have e3:=ED.c 3 rfl
   have e4:=ED.c 4 rfl
   have e5:=ED.c 5 rfl
   have r0_:=RD.c 0 rfl
   have r1_:=RD.c 1 rfl
   have f0_:=RD.f 0 rfl
   have f1_:=RD.f 1 rfl
   have hC:=hmw _ hBD
   have HBD:=hid hBD
   have HGD:=hid hgD
   have HH:=hid hh2
   clear hh2
   clear hB2 hBD E2 R2 ED RD hmn hmw hg2 hgD HB
   obtain⟨M,hMM⟩:∃M,momT (tabD s.was (jat s.was zone).name) ⟨id,name,zone,wall,gap,fold⟩=M:=⟨_,rfl⟩
   have HMM:Hid (momD s.was ⟨id,name,zone,wall,gap,fold⟩=M):=(hMM)
   have hC2:Calls Tryz.prog 92 #[.agg #[.slice d s.was.rules.length cd,.slice e s.was.zones.length ce,.slice f s.was.links.length cf,.map (some wm)],.agg #[.int .i64 id,.string name,.string zone,.int .i64 wall,.int .i64 gap,.int .i64 fold]] WA.drew fun q w'=>q=.returned (.agg #[.int .i64 M.1,.bool M.2])/\Ze w' wm (wn+1) s.was/\WA.drew.grownBy w' (some wm):=hC.mono fun q w' hP=>⟨by rw[hP.ex,hMM],hP.cache,hP.grown⟩
   clear hC hMM
   go_region_held3 (fun w'=>w'.cell? ⟨bb,15,none⟩=some (.slice d s.was.rules.length cd)/\w'.cell? ⟨bb,16,none⟩=some (.slice e s.was.zones.length ce)/\w'.cell? ⟨bb,17,none⟩=some (.slice f s.was.links.length cf)/\w'.cell? ⟨bb,18,none⟩=some (.map (some wm))/\w'.cell? ⟨w.heap.size,0,none⟩=some (.int .i64 id)/\w'.cell? ⟨w.heap.size,1,none⟩=some (.string name)/\w'.cell? ⟨w.heap.size,2,none⟩=some (.string zone)/\w'.cell? ⟨w.heap.size,3,none⟩=some (.int .i64 wall)/\w'.cell? ⟨w.heap.size,4,none⟩=some (.int .i64 gap)/\w'.cell? ⟨w.heap.size,5,none⟩=some (.int .i64 fold)) (go_keep) ((go_at_call 92;refine hC2.mono ?_;rintro q w4 ⟨rfl,hcP,hgP⟩;have z15:=hgP.cell y15 (by simp;omega);have z16:=hgP.cell y16 (by simp;omega);have z17:=hgP.cell y17 (by simp;omega);have z18:=hgP.cell y18 (by simp;omega);have g0:=hgP.cell e0 (by simp;omega);have g1:=hgP.cell e1 (by simp;omega);have g2:=hgP.cell e2 (by simp;omega);have g3:=hgP.cell e3 (by simp;omega);have g4:=hgP.cell e4 (by simp;omega);have g5:=hgP.cell e5 (by simp;omega);have r0:=hgP.cell r0_ (by simp;omega);have r1:=hgP.cell r1_ (by simp;omega);have f0:=(hgP.frozen_far ⟨w.heap.size+1,0,none⟩ (qbl r0_) (by simp;omega)).trans f0_;have f1:=(hgP.frozen_far ⟨w.heap.size+1,1,none⟩ (qbl r1_) (by simp;omega)).trans f1_))
   all_goals
    have HP:Hid (BMomB B Rs X w0 s bb lb nm wm nn wn a b c d e f ca cb cc cd ce cf ⟨id,name,zone,wall,gap,fold⟩ w (.returned (.agg #[.int .i64 M.1,.bool M.2])) ((w4.setCell ⟨w.heap.size+1,0,none⟩ (.int .i64 M.1)).setCell ⟨w.heap.size+1,1,none⟩ (.bool M.2))):=by
     have k1:=HBD.out.grew_w hgP hcP
     have G7:=ja2 w4 (w.heap.size+1) (.int .i64 M.1) (.bool M.2)
     have Gw:w.grownBy ((w4.setCell ⟨w.heap.size+1,0,none⟩ (.int .i64 M.1)).setCell ⟨w.heap.size+1,1,none⟩ (.bool M.2)) (some wm):=((HGD.out.but _).andThen hgP (fun _ h=>.inr h)).andThen G7 (fun j h=>by injection h with h;omega)
     refine⟨by rw[HM.out,HMM.out],?_,wm,.inr rfl,Gw⟩
     have hw0:=k1.bel.size
     refine k1.grown G7 (by have:=HB0.out;omega) (by have:=HBB.out;omega) (by omega) (by omega) (by omega) (fun cs hc=>?_)
     rw[(hgP.block _ (qbl r0_) (by simp;omega)).trans HH.out]at hc
     injection hc with hc
     injection hc with _ hc _
     exact absurd hc (by decide)
    obtain⟨t0,t1⟩:=ja5 (v0:=.int .i64 M.1) (v1:=.bool M.2) r0 r1
    go_wp2
    exact bodyPost_ret (v:=.agg #[.int .i64 M.1,.bool M.2]) (by simp[results,Tryz.results58,go_sem,t0,t1]) rfl HP.out
  ·replace HM:Hid (momB s ⟨id,name,zone,wall,gap,fold⟩=momD s.now ⟨id,name,zone,wall,gap,fold⟩):=HM.out.trans (if_pos rfl)
   go_wp2_with fail
   have hB2:=hB1.below (jbn _ nq)
   have E2:=E0.below (jbn _ nq)
   have R2:=R0.below (jbn _ nq)
   have hg2:=hgW.trans (jag (jbn _ nq))
   have hh2:(((w.alloc (.cells #[.int .i64 id,.string name,.string zone,.int .i64 wall,.int .i64 gap,.int .i64 fold] 99)).alloc (.cells #[.int .i64 0,.bool false] 152)).drewN nq).heap[w.heap.size+1]? =some (Obj.cells #[.int .i64 0,.bool false] 152):=hh1
   clear hB1 E0 R0 hgW c7 b1 hh1
   generalize ((w.alloc (.cells #[.int .i64 id,.string name,.string zone,.int .i64 wall,.int .i64 gap,.int .i64 fold] 99)).alloc (.cells #[.int .i64 0,.bool false] 152)).drewN nq=WA at *
   have hBD:Zf B Rs X w0 WA.drew s bb lb nm wm nn wn a b c d e f ca cb cc cd ce cf:=hB2.below (jaa WA)
   have ED:Zc WA.drew w.heap.size [.int .i64 id,.string name,.string zone,.int .i64 wall,.int .i64 gap,.int .i64 fold]:=E2
   have RD:Zc WA.drew (w.heap.size+1) [.int .i64 0,.bool false]:=R2
   have hgD:w.grownBy WA.drew none:=hg2.trans (jag (jaa WA))
   have y11:=hBD.n0
   have y12:=hBD.n1
   have y13:=hBD.n2
   have y14:=hBD.n3
   have e0:=ED.c 0 rfl
   have e1:=ED.c 1 rfl
   have e2:=ED.c 2 rfl
   have e3:=ED.c 3 rfl
   have e4:=ED.c 4 rfl
   have e5:=ED.c 5 rfl
   have r0_:=RD.c 0 rfl
   have r1_:=RD.c 1 rfl
   have f0_:=RD.f 0 rfl
   have f1_:=RD.f 1 rfl
   have hC:=hmn _ hBD
   have HBD:=hid hBD
   have HGD:=hid hgD
   have HH:=hid hh2
   clear hh2
   clear hB2 hBD E2 R2 ED RD hmn hmw hg2 hgD HB
   obtain⟨M,hMM⟩:∃M,momT (tabD s.now (jat s.now zone).name) ⟨id,name,zone,wall,gap,fold⟩=M:=⟨_,rfl⟩
   have HMM:Hid (momD s.now ⟨id,name,zone,wall,gap,fold⟩=M):=(hMM)
   have hC2:Calls Tryz.prog 92 #[.agg #[.slice a s.now.rules.length ca,.slice b s.now.zones.length cb,.slice c s.now.links.length cc,.map (some nm)],.agg #[.int .i64 id,.string name,.string zone,.int .i64 wall,.int .i64 gap,.int .i64 fold]] WA.drew fun q w'=>q=.returned (.agg #[.int .i64 M.1,.bool M.2])/\Ze w' nm (nn+1) s.now/\WA.drew.grownBy w' (some nm):=hC.mono fun q w' hP=>⟨by rw[hP.ex,hMM],hP.cache,hP.grown⟩
   clear hC hMM
   go_region_held3 (fun w'=>w'.cell? ⟨bb,11,none⟩=some (.slice a s.now.rules.length ca)/\w'.cell? ⟨bb,12,none⟩=some (.slice b s.now.zones.length cb)/\w'.cell? ⟨bb,13,none⟩=some (.slice c s.now.links.length cc)/\w'.cell? ⟨bb,14,none⟩=some (.map (some nm))/\w'.cell? ⟨w.heap.size,0,none⟩=some (.int .i64 id)/\w'.cell? ⟨w.heap.size,1,none⟩=some (.string name)/\w'.cell? ⟨w.heap.size,2,none⟩=some (.string zone)/\w'.cell? ⟨w.heap.size,3,none⟩=some (.int .i64 wall)/\w'.cell? ⟨w.heap.size,4,none⟩=some (.int .i64 gap)/\w'.cell? ⟨w.heap.size,5,none⟩=some (.int .i64 fold)) (go_keep) ((go_at_call 92;refine hC2.mono ?_;rintro q w4 ⟨rfl,hcP,hgP⟩;have z11:=hgP.cell y11 (by simp;omega);have z12:=hgP.cell y12 (by simp;omega);have z13:=hgP.cell y13 (by simp;omega);have z14:=hgP.cell y14 (by simp;omega);have g0:=hgP.cell e0 (by simp;omega);have g1:=hgP.cell e1 (by simp;omega);have g2:=hgP.cell e2 (by simp;omega);have g3:=hgP.cell e3 (by simp;omega);have g4:=hgP.cell e4 (by simp;omega);have g5:=hgP.cell e5 (by simp;omega);have r0:=hgP.cell r0_ (by simp;omega);have r1:=hgP.cell r1_ (by simp;omega);have f0:=(hgP.frozen_far ⟨w.heap.size+1,0,none⟩ (qbl r0_) (by simp;omega)).trans f0_;have f1:=(hgP.frozen_far ⟨w.heap.size+1,1,none⟩ (qbl r1_) (by simp;omega)).trans f1_))
   all_goals
    have HP:Hid (BMomB B Rs X w0 s bb lb nm wm nn wn a b c d e f ca cb cc cd ce cf ⟨id,name,zone,wall,gap,fold⟩ w (.returned (.agg #[.int .i64 M.1,.bool M.2])) ((w4.setCell ⟨w.heap.size+1,0,none⟩ (.int .i64 M.1)).setCell ⟨w.heap.size+1,1,none⟩ (.bool M.2))):=by
     have k1:=HBD.out.grew_n hgP hcP
     have G7:=ja2 w4 (w.heap.size+1) (.int .i64 M.1) (.bool M.2)
     have Gw:w.grownBy ((w4.setCell ⟨w.heap.size+1,0,none⟩ (.int .i64 M.1)).setCell ⟨w.heap.size+1,1,none⟩ (.bool M.2)) (some nm):=((HGD.out.but _).andThen hgP (fun _ h=>.inr h)).andThen G7 (fun j h=>by injection h with h;omega)
     refine⟨by rw[HM.out,HMM.out],?_,nm,.inl rfl,Gw⟩
     have hw0:=k1.bel.size
     refine k1.grown G7 (by have:=HB0.out;omega) (by have:=HBB.out;omega) (by omega) (by omega) (by omega) (fun cs hc=>?_)
     rw[(hgP.block _ (qbl r0_) (by simp;omega)).trans HH.out]at hc
     injection hc with hc
     injection hc with _ hc _
     exact absurd hc (by decide)
    obtain⟨t0,t1⟩:=ja5 (v0:=.int .i64 M.1) (v1:=.bool M.2) r0 r1
    go_wp2
    exact bodyPost_ret (v:=.agg #[.int .i64 M.1,.bool M.2]) (by simp[results,Tryz.results58,go_sem,t0,t1]) rfl HP.out
end
section
open Go.RowKit Go.ChangeMaps Go.MapKept Go.WideMaps Go.Sort
theorem jic{w:World}{b:Nat}(h:∃cs,w.heap[b]? =some (.cells cs 85 (0,0))):∀cs t,w.heap[b]? =some (.cells cs t (0,0))->¬relT t:=fun cs t hc hr=>by
 obtain⟨ds,hd⟩:=h
 rw[hd]at hc
 injection hc with hc
 injection hc with _ hc _
 subst hc
 rcases hr with h|h|h|h<;>exact absurd h (by decide)
structure Frm(w w':World):Prop where
 size:w.heap.size<=w'.heap.size
 keep:∀(b:Nat) (cs:Array Value) (t:TypeId),w.heap[b]? =some (Obj.cells cs t (0,0))->t≠85->t≠101->w'.heap[b]? =w.heap[b]?
theorem Frm.refl(w:World):Frm w w:=⟨Nat.le_refl _,fun _ _ _ _ _ _=>rfl⟩
theorem Frm.trans{a b c:World}(h:Frm a b)(k:Frm b c):Frm a c:=⟨Nat.le_trans h.size k.size,fun x cs t hc h1 h2=>(k.keep x cs t ((h.keep x cs t hc h1 h2).trans hc) h1 h2).trans (h.keep x cs t hc h1 h2)⟩
theorem Frm.below{a b c:World}(h:Frm a b)(k:Below b.heap.size b c):Frm a c:=⟨Nat.le_trans h.size k.size,fun x cs t hc h1 h2=>(k.block x (Nat.lt_of_lt_of_le (Array.getElem?_eq_some_iff.mp hc).1 h.size)).trans (h.keep x cs t hc h1 h2)⟩
theorem Frm.row{a b c:World}{g:Nat}(h:Frm a b)(k:b.grownBy c (some g))(hg:a.heap.size<=g):Frm a c:=⟨Nat.le_trans h.size k.size,fun x cs t hc h1 h2=>by
 have hx:=(Array.getElem?_eq_some_iff.mp hc).1
 exact(k.block x (Nat.lt_of_lt_of_le hx h.size) (by simp;omega)).trans (h.keep x cs t hc h1 h2)⟩
theorem Frm.typed{a b c:World}{g:Nat}(h:Frm a b)(k:b.grownBy c (some g))(hg:∀cs t,b.heap[g]? =some (Obj.cells cs t (0,0))->t=85\/t=101):Frm a c:=⟨Nat.le_trans h.size k.size,fun x cs t hc h1 h2=>by
 have hx:=(Array.getElem?_eq_some_iff.mp hc).1
 have he:=h.keep x cs t hc h1 h2
 refine(k.block x (Nat.lt_of_lt_of_le hx h.size) (fun e=>?_)).trans he
 injection e with e
 subst e
 rcases hg cs t (he.trans hc)with h3|h3
 ·exact h1 h3
 ·exact h2 h3⟩
theorem Frm.map{a b c:World}{g:Nat}(h:Frm a b)(k:b.grownBy c (some g))(hg:∃es n,b.heap[g]? =some (.map es n)):Frm a c:=h.typed k fun cs t hc=>by
 obtain⟨es,n,hm⟩:=hg
 rw[hm]at hc
 cases hc
theorem jxc{w:World}{b n:Nat}{r:RelD}(h:Ze w b n r):∀o,w.heap[b]? =some o->(∃cs t z,o=Obj.cells cs t z)->False:=fun o hc ⟨cs,t,z,ho⟩=>by
 obtain⟨D,⟨es,clock,hb,_⟩,_⟩:=h.own
 rw[hb]at hc
 injection hc with hc
 rw[ho]at hc
 cases hc
theorem Zf.mono{B:Nat}{Rs:List (Value × RelD)}{X:List (Nat × Value)}{w0 w:World}{s:Za}{bb lb nm wm nn wn:Nat}{a b c d e f:Option Addr}{ca cb cc cd ce cf:Nat}(h:Zf B Rs X w0 w s bb lb nm wm nn wn a b c d e f ca cb cc cd ce cf)(C:Nat)(hc:B<=C)(hs:C<=w.heap.size):Zf C Rs X w0 w s bb lb nm wm nn wn a b c d e f ca cb cc cd ce cf:=
 { h with rn:=h.rn.mono hc hs,rw:=h.rw.mono hc hs,bB:=Nat.lt_of_lt_of_le h.bB hc,nB:=Nat.lt_of_lt_of_le h.nB hc,wB:=Nat.lt_of_lt_of_le h.wB hc,rs:=fun y hy=>(h.rs y hy).mono hc hs }
theorem Zf.grownT{B:Nat}{Rs:List (Value × RelD)}{X:List (Nat × Value)}{w0 w w':World}{g:Nat}{s:Za}{bb lb nm wm nn wn:Nat}{a b c d e f:Option Addr}{ca cb cc cd ce cf:Nat}(h:Zf B Rs X w0 w s bb lb nm wm nn wn a b c d e f ca cb cc cd ce cf)(hg:w.grownBy w' (some g))(hb:w0.heap.size<=g)(h1:bb≠g)(h2:nm≠g)(h3:wm≠g)(hne:∀cs,w.heap[g]? ≠some (.cells cs 304 (0,0)))(hT:∀cs t,w.heap[g]? =some (.cells cs t (0,0))->¬relT t):Zf B Rs X w0 w' s bb lb nm wm nn wn a b c d e f ca cb cc cd ce cf:=by
 have k:some bb≠some g:=by simpa using h1
 exact⟨jq5 h.bel hg hb,hg.cell h.cur k,hg.cell h.live k,hg.cell h.n0 k,hg.cell h.n1 k,hg.cell h.n2 k,hg.cell h.n3 k,hg.cell h.w1 k,hg.cell h.w2 k,hg.cell h.w3 k,hg.cell h.w4 k,h.cn.grown hg h2 hne,h.cw.grown hg h3 hne,h.ne,h.bn,h.bw,fun p hp=>hg.cell (h.more p hp) k,by
  obtain⟨cs,h1⟩:=h.blk
  exact⟨cs,(hg.block bb (qbl h.cur) k).trans h1⟩,h.rn.kept (Zp.grown h.rn.le hg (.inr hT)) hg.size,h.rw.kept (Zp.grown h.rw.le hg (.inr hT)) hg.size,h.bB,h.nB,h.wB,fun y hy=>(h.rs y hy).kept (Zp.grown h.rn.le hg (.inr hT)) hg.size⟩
theorem Zf.set{B:Nat}{Rs:List (Value × RelD)}{X Y:List (Nat × Value)}{w0 w:World}{s:Za}{bb lb nm wm nn wn:Nat}{a b c d e f:Option Addr}{ca cb cc cd ce cf:Nat}(h:Zf B Rs X w0 w s bb lb nm wm nn wn a b c d e f ca cb cc cd ce cf)(j:Nat)(v:Value)(hj:j<10)(h7:j≠7)(hb:w0.heap.size<=bb)(hY:∀p∈Y,p=(j,v)\/p∈X/\p.1≠j):Zf B Rs Y w0 (w.setCell ⟨bb,j,none⟩ v) s bb lb nm wm nn wn a b c d e f ca cb cc cd ce cf:=by
 have hg:=jbt w bb j v
 have hne:∀cs,w.heap[bb]? ≠some (.cells cs 304 (0,0)):=fun cs hc=>by
  obtain⟨ds,hd⟩:=h.blk
  rw[hd]at hc
  simp at hc
 have k:∀i u,i≠j->w.cell? ⟨bb,i,none⟩=some u->(w.setCell ⟨bb,j,none⟩ v).cell? ⟨bb,i,none⟩=some u:=fun i u hi hu=>by
  rw[World.cell?_setCell_other _ _ _ _ (by intro e;injection e with _ e;exact hi e.symm)];exact hu
 refine⟨h.bel.setCell hb _,k 7 _ (Ne.symm h7) h.cur,k 10 _ (by omega) h.live,k 11 _ (by omega) h.n0,k 12 _ (by omega) h.n1,k 13 _ (by omega) h.n2,k 14 _ (by omega) h.n3,k 15 _ (by omega) h.w1,k 16 _ (by omega) h.w2,k 17 _ (by omega) h.w3,k 18 _ (by omega) h.w4,h.cn.grown hg (Ne.symm h.ne_n) hne,h.cw.grown hg (Ne.symm h.ne_w) hne,h.ne,h.bn,h.bw,fun p hp=>?_,j5b h.blk,h.rn.kept (Zp.grown h.rn.le hg (.inr (jic h.blk))) hg.size,h.rw.kept (Zp.grown h.rw.le hg (.inr (jic h.blk))) hg.size,h.bB,h.nB,h.wB,fun y hy=>(h.rs y hy).kept (Zp.grown h.rn.le hg (.inr (jic h.blk))) hg.size⟩
 rcases hY p hp with rfl|⟨h1,h2⟩
 ·obtain⟨cs,hc⟩:=h.blk
  obtain⟨ds,hd⟩:∃u,w.cell? ⟨bb,j,none⟩=some u:=by
   have h10:=h.live
   simp only[World.cell?,hc]at h10 ⊢
   have hl:10<cs.size:=by
    rcases Nat.lt_or_ge 10 cs.size with h|h
    ·exact h
    ·simp[Array.getElem?_eq_none h]at h10
   exact⟨_,by simp[Array.getElem?_eq_getElem (show j<cs.size by omega)];rfl⟩
  exact World.cell?_setCell_same _ _ _ hd
 ·exact k _ _ h2 (h.more p h1)
theorem Zf.free{B:Nat}{Rs:List (Value × RelD)}{X:List (Nat × Value)}{w0 w:World}{s:Za}{bb lb nm wm nn wn:Nat}{a b c d e f:Option Addr}{ca cb cc cd ce cf:Nat}(h:Zf B Rs X w0 w s bb lb nm wm nn wn a b c d e f ca cb cc cd ce cf)(j:Nat):w.frozen? ⟨bb,j,none⟩=false:=by
 obtain⟨cs,hc⟩:=h.blk
 simp[World.frozen?,hc]
theorem jzh{B:Nat}{Rs:List (Value × RelD)}{X:List (Nat × Value)}(w0:World)(s:Za)(bb lb nm wm N k0 g:Nat)(ob:Obj)(wF:World)(hwF:wF.heap.size<=B)(a b c d e f:Option Addr)(ca cb cc cd ce cf:Nat)(hE:Zm w0)(ok:Zr s.now)(ok2:Zr s.was)(hr:relB s.now=true)(hr2:relB s.was=true)(hB:w0.heap.size<=B)(h1:bb<B)(h2:nm<B)(h3:wm<B)(h4:nm≠lb)(h5:wm≠lb)(h6:g<B)(h7:nm≠g)(h8:wm≠g)(hNl:k0+N<=1000):
  MoK 58 #[.pointer (some ⟨bb,0,none⟩)] (momB s) (fun k W=>Zf B Rs X w0 W s bb lb nm wm (k0+k) (k0+k) a b c d e f ca cb cc cd ce cf/\W.heap[g]? =some ob/\Frm wF W) lb B N where
 enter:=fun _ _=>by kernel_rfl
 call:=fun k ev W hk hI=>(jhz w0 s bb lb nm wm (k0+k) (k0+k) a b c d e f ca cb cc cd ce cf ev W hE ok ok2 hr hr2 hI.1 (by omega) (by omega)).mono fun q W' hP=>by
  have hlt:g<W.heap.size:=(Array.getElem?_eq_some_iff.mp hI.2.1).1
  obtain⟨x,hx,hgr⟩:=hP.grown
  refine⟨hP.ex,⟨hP.book,(hgr.block g hlt ?_).trans hI.2.1,?_⟩,?_⟩
  ·rcases hx with rfl|rfl
   ·simpa using Ne.symm h7
   ·simpa using Ne.symm h8
  ·rcases hx with rfl|rfl
   ·exact hI.2.2.map hgr (jan hI.1.cn)
   ·exact hI.2.2.map hgr (jan hI.1.cw)
  ·rcases hx with rfl|rfl
   ·exact⟨_,h4,jan hI.1.cn,hgr⟩
   ·exact⟨_,h5,jan hI.1.cw,hgr⟩
 below:=fun k W W' hI hb=>⟨hI.1.below hb,(hb.block g (Array.getElem?_eq_some_iff.mp hI.2.1).1).trans hI.2.1,hI.2.2.below hb⟩
 row:=fun k W W' x hI hg hx ht=>⟨hI.1.grown hg (by omega) hx (by omega) (by omega) (by omega) ht,(hg.block g (Array.getElem?_eq_some_iff.mp hI.2.1).1 (by simp;omega)).trans hI.2.1,hI.2.2.row hg (by omega)⟩
theorem jdt{B:Nat}{Rs:List (Value × RelD)}{X:List (Nat × Value)}(w0:World)(s:Za)(bb lb nm wm n k0 g:Nat)(ob:Obj)(a b c d e f:Option Addr)(ca cb cc cd ce cf:Nat)(F:Int->Option EventD)(L:List EventD)(w:World)(hE:Zm w0)(ok:Zr s.now)(ok2:Zr s.was)(hr:relB s.now=true)(hr2:relB s.was=true)(hB:Zf B Rs X w0 w s bb lb nm wm k0 k0 a b c d e f ca cb cc cd ce cf)(h4:nm≠lb)(h5:wm≠lb)(hg:w.heap[g]? =some ob)(h7:nm≠g)(h8:wm≠g)(hM:Zg w lb n F)(hT:Jc F L)(hL:L.Pairwise fun x y=>x.id<y.id)(hl:k0+L.length<=1000):
  Calls Tryz.prog 40 #[.pointer (some ⟨bb,0,none⟩)] w (EntsP (fun k W=>Zf w.heap.size Rs X w0 W s bb lb nm wm (k0+k) (k0+k) a b c d e f ca cb cc cd ce cf/\W.heap[g]? =some ob/\Frm w W) L.length lb n F (entF (momB s) L) w):=by
 have hB:=hB.mono w.heap.size hB.rn.le (Nat.le_refl _)
 have hK:=jzh (B:=w.heap.size) (Rs:=Rs) (X:=X) w0 s bb lb nm wm L.length k0 g ob w (Nat.le_refl _) a b c d e f ca cb cc cd ce cf hE ok ok2 hr hr2 hB.bel.size (qbl hB.cur) hB.cn.lt hB.cw.lt h4 h5 (Array.getElem?_eq_some_iff.mp hg).1 h7 h8 hl
 have hC:=jel j5a F L w hK hM hT hL (by omega) ⟨hB,hg,Frm.refl w⟩
 have x10:=hB.live
 clear hK hB hE ok ok2 hr hr2 hM hT hL hg
 go_enter Tryz.func40,Tryz.ntmps40
 go_wp2_with fail
 refine hC.mono ?_
 rintro q w2 hP
 obtain⟨v,rfl,hO⟩:=hP.ex
 go_wp2
 go_ret
 exact hP
theorem Zf.re{B:Nat}{Rs:List (Value × RelD)}{X:List (Nat × Value)}{w0 w:World}{s s':Za}{bb lb nm wm nn wn:Nat}{a b c d e f:Option Addr}{ca cb cc cd ce cf:Nat}(h:Zf B Rs X w0 w s bb lb nm wm nn wn a b c d e f ca cb cc cd ce cf)(h1:s'.now=s.now)(h2:s'.was=s.was)(h3:s'.cur=s.cur):Zf B Rs X w0 w s' bb lb nm wm nn wn a b c d e f ca cb cc cd ce cf:=by
 obtain⟨tx,now,was,cur,vs,ix⟩:=s
 obtain⟨tx',now',was',cur',vs',ix'⟩:=s'
 dsimp only at h1 h2 h3
 subst h1 h2 h3
 exact⟨h.bel,h.cur,h.live,h.n0,h.n1,h.n2,h.n3,h.w1,h.w2,h.w3,h.w4,h.cn,h.cw,h.ne,h.bn,h.bw,h.more,h.blk,h.rn,h.rw,h.bB,h.nB,h.wB,h.rs⟩
theorem Zf.appended{B:Nat}{Rs:List (Value × RelD)}{X:List (Nat × Value)}{w0 w w':World}{s:Za}{bb lb nm wm nn wn:Nat}{a b c d e f:Option Addr}{ca cb cc cd ce cf:Nat}{v:Value}{n base:Nat}{xs:List Value}(h:Zf B Rs X w0 w s bb lb nm wm nn wn a b c d e f ca cb cc cd ce cf)(hg:w.grownBy w' v.ownBlock)(ho:w.ownsRow base 101 8 v n xs)(hb:w0.heap.size<=base):Zf B Rs X w0 w' s bb lb nm wm nn wn a b c d e f ca cb cc cd ce cf:=by
 cases hv:v.ownBlock with
 |none=>
  rw[hv]at hg
  exact h.below ⟨hg.os,hg.tape,hg.output,hg.size,fun j hj=>hg.block j hj (by simp)⟩
 | some g=>
  rw[hv]at hg
  have hlt:=World.ownsRow.lt ho g hv
  obtain⟨cs,hc⟩:=jcj ho hv
  refine h.grownT hg (by omega) (fun e=>?_) (fun e=>?_) (fun e=>?_) (fun ds hd=>?_) (fun ds t hd hr=>?_)
  ·obtain⟨ds,hd⟩:=h.blk
   rw[e,hc]at hd
   injection hd with hd
   injection hd with _ hd _
   exact absurd hd (by decide)
  ·have:=jxc h.cn
   rw[e]at this
   exact this _ hc ⟨_,_,_,rfl⟩
  ·have:=jxc h.cw
   rw[e]at this
   exact this _ hc ⟨_,_,_,rfl⟩
  ·rw[hc]at hd
   injection hd with hd
   injection hd with _ hd _
   exact absurd hd (by decide)
  ·rw[hc]at hd
   injection hd with hd
   injection hd with _ hd _
   subst hd
   rcases hr with h|h|h|h<;>exact absurd h (by decide)
end
end Go.Proofs.YtofdpfpdocpbpaaGreatDoor
