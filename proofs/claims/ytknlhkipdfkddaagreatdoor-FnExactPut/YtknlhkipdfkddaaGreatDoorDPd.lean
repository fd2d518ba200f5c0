/- Packed. -/
import Derived.Test.YtknlhkipdfkddaaGreatDoorCPd
set_option maxRecDepth 20000
set_option maxHeartbeats 20000000
set_option linter.unusedSimpArgs false
namespace Go.Proofs.YtknlhkipdfkddaaGreatDoor
section
open Go.RowKit Go.ChangeMaps Go.MapKept Go.WideMaps Go.Sort
theorem not_in_map{w:World}{b o:Nat}{v:Value}{lb:Nat}(hm:∃es c,w.heap[lb]? =some (.map es c))(h:w.cell? (ad b o)=some v):b≠lb:=fun e=>by
 subst e
 obtain⟨es,c,hm⟩:=hm
 simp[World.cell?,hm]at h
theorem rebased{Qq w0 w w':World}{g:Nat}(h0:Bw Qq w0)(hb:Bw w0 w)(hg:w.grownBy w' (some g))(h1:Qq.heap.size<=g)(hl:g<w0.heap.size):∃w1:World,w1.heap.size=w0.heap.size/\Bw w1 w'/\Bw Qq w1/\∀k,k≠g->w1.heap[k]? =w0.heap[k]? :=by
 have s1:=hb.size
 have s2:=hg.size
 obtain⟨o,ho⟩:∃o,w'.heap[g]? =some o:=⟨_,Array.getElem?_eq_getElem (by omega)⟩
 have hk:∀k,k≠g->(w0.heap.setIfInBounds g o)[k]? =w0.heap[k]? :=fun k hk=>by rw[Array.getElem?_setIfInBounds,if_neg (Ne.symm hk)]
 refine⟨{ w0 with heap:=w0.heap.setIfInBounds g o },by simp,⟨hg.os.trans hb.os,hg.tape.trans hb.tape,hg.output.trans hb.output,by simp;omega,fun k h=>?_⟩,⟨h0.os,h0.tape,h0.output,by simpa using h0.size,fun k h=>(hk k (by omega)).trans (h0.block k h)⟩,hk⟩
 simp at h
 by_cases e:k=g
 ·subst e
  rw[ho,Array.getElem?_setIfInBounds,if_pos rfl,if_pos h]
 ·rw[hk k e]
  exact(hg.block k (by omega) (by simpa using e)).trans (hb.block k h)
theorem RowC.keep{w w':World}{B U:Nat}{t:TypeId}{q:Nat}{v:Value}{rows:List (List Value)}(h:RowC w B U t q v rows)(hS:∀b,B<=b->b<U->w'.heap[b]? =w.heap[b]?):RowC w' B U t q v rows:=by
 obtain⟨⟨hl,hv⟩,h2⟩:=h
 refine⟨⟨hl,?_⟩,h2⟩
 rcases hv with h|⟨g,cap,cur,rfl,hB,hg,hr⟩
 ·exact .inl h
 ·exact .inr ⟨g,cap,cur,rfl,hB,(hS g hB (h2 g rfl)).trans hg,hr⟩
theorem RelC.keep{w w':World}{B U:Nat}{va vb vc:Value}{r:RelD}(h:RelC w B U va vb vc r)(hS:∀b,B<=b->b<U->w'.heap[b]? =w.heap[b]?):RelC w' B U va vb vc r:=by
 obtain⟨Z,R,L,zr,⟨k1,k2,k3,k4⟩,h2,h3,h4,h5,h6⟩:=h.ex
 exact⟨Z,R,L,zr,⟨k1,k2,k3,k4⟩,h2.keep fun b p q=>hS b p (by omega),⟨h3.len,fun i z hz=>by
  obtain⟨e,c,k1,k2⟩:=h3.at_ i z hz
  exact⟨e,c,k1,k2.keep fun b p q=>hS b (by omega) (by omega)⟩,h3.inc⟩,h4,h5.keep fun b p q=>hS b (by omega) (by omega),h6.keep fun b p q=>hS b (by omega) q⟩
theorem StC.parts{w:World}{B U:Nat}{s:StoreD}{a b c d e f va ia:Option Addr}{ca cb cc cd ce cf cv ci:Nat}(h:StC w B U (.agg (stA s a b c d e f va ia ca cb cc cd ce cf cv ci).toArray) s):∃M1 M2 M3,(B<=M1/\M1<=M2/\M2<=M3/\M3<=U)/\RelC w B M1 (.slice a s.now.rules.length ca) (.slice b s.now.zones.length cb) (.slice c s.now.links.length cc) s.now/\RelC w M1 M2 (.slice d s.was.rules.length cd) (.slice e s.was.zones.length ce) (.slice f s.was.links.length cf) s.was/\RowC w M2 M3 95 8 (.slice va s.vs.length cv) (s.vs.map VersionD.cs)/\RowC w M3 U 89 2 (.slice ia s.ix.length ci) (s.ix.map EntryD.cs):=by
 obtain⟨a',b',c',d',e',f',Sc,RW,NZ,Oa,Oc,RC,ND,RE,RH,RG,M1,M2,M3,hv,h1,h2,h3,h4,h5⟩:=h.form
 simp only[stA,Value.agg.injEq,Array.mk.injEq,List.cons.injEq,Value.slice.injEq,true_and,and_true]at hv
 obtain⟨⟨rfl,rfl⟩,⟨rfl,rfl⟩,⟨rfl,rfl⟩,⟨rfl,rfl⟩,⟨rfl,rfl⟩,⟨rfl,rfl⟩,⟨rfl,rfl⟩,rfl,rfl⟩:=hv
 exact⟨M1,M2,M3,h1,h2,h3,h4,h5⟩
theorem live_map{w:World}{b n:Nat}{f:Int->Option EventD}(h:Zm w b n f):∃es c,w.heap[b]? =some (.map es c):=by
 obtain⟨D,⟨es,aZ,hb,_⟩,_⟩:=h.own
 exact⟨es,aZ,hb⟩
theorem Zl.turned{X:List (Nat × Value)}{Qq w0 w w':World}{s:StoreD}{bb lb nm wm nn wn g:Nat}{a b c d e f:Option Addr}{ca cb cc cd ce cf:Nat}(h:Zl X w0 w s bb lb nm wm nn wn a b c d e f ca cb cc cd ce cf)(h0:Bw Qq w0)(hg:w.grownBy w' (some g))(hw:Qq.heap.size<=g)(hl:g<w0.heap.size)(k:some bb≠some g)(az:∀cs,w.heap[g]? ≠some (.cells cs 209 (0,0))):∃w1:World,w1.heap.size=w0.heap.size/\Zl X w1 w' s bb lb nm wm nn wn a b c d e f ca cb cc cd ce cf/\Bw Qq w1/\∀k,k≠g->w1.heap[k]? =w0.heap[k]? :=by
 obtain⟨w1,k1,k2,k3,k4⟩:=rebased h0 h.bel hg hw hl
 have j1:=h.bn
 have j2:=h.bw
 refine⟨w1,k1,⟨k2,hg.cell h.cur k,hg.cell h.live k,hg.cell h.n0 k,hg.cell h.n1 k,hg.cell h.n2 k,hg.cell h.n3 k,hg.cell h.w1 k,hg.cell h.w2 k,hg.cell h.w3 k,hg.cell h.w4 k,h.cn.grown hg (by omega) az,h.cw.grown hg (by omega) az,h.ne,by rw[k1];exact h.bn,by rw[k1];exact h.bw,fun p hp=>hg.cell (h.more p hp) k,?_⟩,k3,k4⟩
 obtain⟨cs,hc⟩:=h.blk
 exact⟨cs,(hg.block bb (qbl h.cur) k).trans hc⟩
theorem set_blk{w:World}{b j:Nat}{v:Value}{t:TypeId}(h:∃cs,w.heap[b]? =some (.cells cs t (0,0))):∃cs,(w.setCell (ad b j) v).heap[b]? =some (.cells cs t (0,0)):=by
 obtain⟨cs,hc⟩:=h
 rw[Go.Sort.setCell_eq]
 simp[Go.Sort.mapBlock,Array.getElem?_modify,hc]
 exact⟨_,rfl⟩
theorem Zl.set{X Y:List (Nat × Value)}{w0 w:World}{s:StoreD}{bb lb nm wm nn wn:Nat}{a b c d e f:Option Addr}{ca cb cc cd ce cf:Nat}(h:Zl X w0 w s bb lb nm wm nn wn a b c d e f ca cb cc cd ce cf)(j:Nat)(v:Value)(hj:j<10)(h7:j≠7)(hb:w0.heap.size<=bb)(hY:∀p∈Y,p=(j,v)\/p∈X/\p.1≠j):Zl Y w0 (w.setCell (ad bb j) v) s bb lb nm wm nn wn a b c d e f ca cb cc cd ce cf:=by
 have hg:=jck w bb j v
 have az:∀cs,w.heap[bb]? ≠some (.cells cs 209 (0,0)):=fun cs hc=>by
  obtain⟨ds,hd⟩:=h.blk
  rw[hd]at hc
  simp at hc
 have k:∀i u,i≠j->w.cell? (ad bb i)=some u->(w.setCell (ad bb j) v).cell? (ad bb i)=some u:=fun i u hi hu=>by
  rw[wco _ _ _ _ (by intro e;injection e with _ e;exact hi e.symm)];exact hu
 refine⟨h.bel.setCell hb _,k 7 _ (Ne.symm h7) h.cur,k 10 _ (by omega) h.live,k 11 _ (by omega) h.n0,k 12 _ (by omega) h.n1,k 13 _ (by omega) h.n2,k 14 _ (by omega) h.n3,k 15 _ (by omega) h.w1,k 16 _ (by omega) h.w2,k 17 _ (by omega) h.w3,k 18 _ (by omega) h.w4,h.cn.grown hg (Ne.symm h.ne_n) az,h.cw.grown hg (Ne.symm h.ne_w) az,h.ne,h.bn,h.bw,fun p hp=>?_,set_blk h.blk⟩
 rcases hY p hp with rfl|⟨h1,h2⟩
 ·obtain⟨cs,hc⟩:=h.blk
  obtain⟨ds,hd⟩:∃u,w.cell? (ad bb j)=some u:=by
   have AJ:=h.live
   simp only[World.cell?,hc]at AJ ⊢
   have hl:10<cs.size:=by
    rcases Nat.lt_or_ge 10 cs.size with h|h
    ·exact h
    ·simp[Array.getElem?_eq_none h]at AJ
   exact⟨_,by simp[Array.getElem?_eq_getElem (show j<cs.size by omega)];rfl⟩
  exact wcs _ _ _ hd
 ·exact k _ _ h2 (h.more p h1)
theorem Zl.free{X:List (Nat × Value)}{w0 w:World}{s:StoreD}{bb lb nm wm nn wn:Nat}{a b c d e f:Option Addr}{ca cb cc cd ce cf:Nat}(h:Zl X w0 w s bb lb nm wm nn wn a b c d e f ca cb cc cd ce cf)(j:Nat):w.frozen? (ad bb j)=false:=by
 obtain⟨cs,hc⟩:=h.blk
 simp[World.frozen?,hc]
theorem Zl.appended{X:List (Nat × Value)}{Qq w0 w w':World}{s:StoreD}{bb lb nm wm nn wn M2 M3:Nat}{v:Value}{a b c d e f:Option Addr}{ca cb cc cd ce cf:Nat}(h:Zl X w0 w s bb lb nm wm nn wn a b c d e f ca cb cc cd ce cf)(h0:Bw Qq w0)(hg:w.grownBy w' v.ownBlock)(hv:∀g,v.ownBlock=some g->M2<=g/\g<M3/\∃cs,w.heap[g]? =some (.cells cs 95 (0,0)))(h2:Qq.heap.size<=M2)(h3:M3<=w0.heap.size)(hb:w0.heap.size<=bb):∃w1:World,w1.heap.size=w0.heap.size/\Zl X w1 w' s bb lb nm wm nn wn a b c d e f ca cb cc cd ce cf/\Bw Qq w1/\∀k,k<M2->w1.heap[k]? =w0.heap[k]? :=by
 cases ho:v.ownBlock with
 |none=>
  rw[ho]at hg
  exact⟨w0,rfl,h.below ⟨hg.os,hg.tape,hg.output,hg.size,fun j hj=>hg.block j hj (by simp)⟩,h0,fun _ _=>rfl⟩
 | some g=>
  rw[ho]at hg
  obtain⟨g1,g2,cs,hc⟩:=hv g ho
  obtain⟨w1,k1,k2,k3,k4⟩:=h.turned h0 hg (by omega) (by omega) (by simp;omega) (fun ds hd=>by
   rw[hc]at hd
   simp at hd)
  exact⟨w1,k1,k2,k3,fun k hk=>k4 k (by omega)⟩
theorem book_mokG{X:List (Nat × Value)}(w0:World)(s:StoreD)(bb lb nm wm B N k0 g:Nat)(ob:Obj)(a b c d e f:Option Addr)(ca cb cc cd ce cf:Nat)(hE:Zx w0)(hN:Zd w0 (.agg #[.slice a s.now.rules.length ca,.slice b s.now.zones.length cb,.slice c s.now.links.length cc]) s.now)(hW:Zd w0 (.agg #[.slice d s.was.rules.length cd,.slice e s.was.zones.length ce,.slice f s.was.links.length cf]) s.was)(ok:Jk s.now)(kS:Jk s.was)(hr:relB s.now=true)(dC:relB s.was=true)(hB:w0.heap.size<=B)(h1:bb<B)(h2:nm<B)(h3:wm<B)(h4:nm≠lb)(h5:wm≠lb)(h6:g<B)(h7:nm≠g)(h8:wm≠g)(JH:k0+N<=1000):
  MoK 101 #[.pointer (some (ad bb 0))] (momB s) (fun k W=>Zl X w0 W s bb lb nm wm (k0+k) (k0+k) a b c d e f ca cb cc cd ce cf/\W.heap[g]? =some ob) lb B N where
 enter:=fun _ _=>by kernel_rfl
 call:=fun k ev W hk hI=>(jjg w0 s bb lb nm wm (k0+k) (k0+k) a b c d e f ca cb cc cd ce cf ev W hE hN hW ok kS hr dC hI.1 (by omega) (by omega)).mono fun q W' hP=>by
  have hlt:g<W.heap.size:=(Array.getElem?_eq_some_iff.mp hI.2).1
  obtain⟨x,hx,dp⟩:=hP.grown
  refine⟨hP.ex,⟨hP.book,(dp.block g hlt ?_).trans hI.2⟩,?_⟩
  ·rcases hx with rfl|rfl
   ·simpa using Ne.symm h7
   ·simpa using Ne.symm h8
  ·rcases hx with rfl|rfl
   ·exact⟨_,h4,jjr hI.1.cn,dp⟩
   ·exact⟨_,h5,jjr hI.1.cw,dp⟩
 below:=fun k W W' hI hb=>⟨hI.1.below hb,(hb.block g (Array.getElem?_eq_some_iff.mp hI.2).1).trans hI.2⟩
 row:=fun k W W' x hI hg hx ht=>⟨hI.1.grown hg (by omega) (by omega) (by omega) (by omega) ht,(hg.block g (Array.getElem?_eq_some_iff.mp hI.2).1 (by simp;omega)).trans hI.2⟩
theorem impl_bookEntriesG{X:List (Nat × Value)}(w0:World)(s:StoreD)(bb lb nm wm n k0 g:Nat)(ob:Obj)(a b c d e f:Option Addr)(ca cb cc cd ce cf:Nat)(F:Int->Option EventD)(L:List EventD)(w:World)(hE:Zx w0)(hN:Zd w0 (.agg #[.slice a s.now.rules.length ca,.slice b s.now.zones.length cb,.slice c s.now.links.length cc]) s.now)(hW:Zd w0 (.agg #[.slice d s.was.rules.length cd,.slice e s.was.zones.length ce,.slice f s.was.links.length cf]) s.was)(ok:Jk s.now)(kS:Jk s.was)(hr:relB s.now=true)(dC:relB s.was=true)(hB:Zl X w0 w s bb lb nm wm k0 k0 a b c d e f ca cb cc cd ce cf)(h4:nm≠lb)(h5:wm≠lb)(hg:w.heap[g]? =some ob)(h7:nm≠g)(h8:wm≠g)(hM:Zm w lb n F)(hT:Tells F L)(hL:L.Pairwise fun x y=>x.id<y.id)(hl:k0+L.length<=1000):
  Cl 63 #[.pointer (some (ad bb 0))] w (EntsP (fun k W=>Zl X w0 W s bb lb nm wm (k0+k) (k0+k) a b c d e f ca cb cc cd ce cf/\W.heap[g]? =some ob) L.length lb n F (entF (momB s) L) w):=by
 have hK:=book_mokG (X:=X) w0 s bb lb nm wm w.heap.size L.length k0 g ob a b c d e f ca cb cc cd ce cf hE hN hW ok kS hr dC hB.bel.size (qbl hB.cur) hB.cn.lt hB.cw.lt h4 h5 (Array.getElem?_eq_some_iff.mp hg).1 h7 h8 hl
 have hC:=jg2 j29 F L w hK hM hT hL (by omega) ⟨hB,hg⟩
 have Q9:=hB.live
 clear hK hB hE hN hW ok kS hr dC hM hT hL hg
 go_enter Tryz.func63,Tryz.ntmps63
 go_wp2_with fail
 refine hC.mono ?_
 rintro q w2 hP
 obtain⟨v,rfl,hO⟩:=hP.ex
 go_wp2
 go_ret
 exact hP
end
section
open Go.RowKit Go.ChangeMaps Go.MapKept Go.WideMaps Go.Sort
def verOf(t:Int)(g:Bool)(e:EventD):VersionD:=⟨t,g,e.id,e.name,e.zone,e.wall,e.gap,e.fold⟩
def addS(s:StoreD)(e:EventD)(g:Bool):StoreD:=⟨s.tx+1,s.now,s.was,s.cur,s.vs++[verOf (s.tx+1) g e],entF (momB s) (jan (s.vs++[verOf (s.tx+1) g e]))⟩
structure BAddP(s:StoreD)(Qq:World)(x:Option Addr)(q:Ending)(w':World):Prop where
 end_:q=.returned (.tuple #[])
 ex:∃bb a1 a2 a3 a4 a5 a6 a8 a9 c1 c2 c3 c4 c5 c6 c8 c9 B U,x=some (ad bb 0)/\(∀p∈bkX s a1 a2 a3 a4 a5 a6 a8 a9 c1 c2 c3 c4 c5 c6 c8 c9,w'.cell? (ad bb p.1)=some p.2)/\w'.cell? (ad bb 7)=some (iv s.cur)/\StC w' B U (.agg (stA s a1 a2 a3 a4 a5 a6 a8 a9 c1 c2 c3 c4 c5 c6 c8 c9).toArray) s/\Qq.heap.size<=B/\U<=w'.heap.size
 bel:Bw Qq w'
theorem own_moved{w w':World}{base:Nat}{e:TypeId}{q g m cap:Nat}{n:Nat}{xs:List Value}(h:w.ownsRow base e q (so g m cap) n xs)(hg:w'.heap[g]? =w.heap[g]?):w'.ownsRow base e q (so g m cap) n xs:=by
 refine⟨h.1,?_⟩
 rcases h.2 with⟨h1,_⟩|⟨g',c,cur,h1,h2,h3,h4⟩
 ·injection h1 with h1;cases h1
 ·have h5:=h1
  injection h5 with h5
  injection h5 with h5
  injection h5 with h5
  subst h5
  exact .inr ⟨g,c,cur,h1,h2,hg.trans h3,h4⟩
theorem ver_row{w:World}{base:Nat}{e:TypeId}{g cap:Nat}{l:List VersionD}{v:VersionD}(h:w.ownsRow base e 8 (so g (l.length+1) cap) (l.length+1) ((l.map VersionD.cs).flatten++v.cs)):w.ownsRow base e 8 (so g (l++[v]).length cap) ((l++[v]).map VersionD.cs).length ((l++[v]).map VersionD.cs).flatten:=by
 rw[llm,lla,lma,List.flatten_append]
 simpa using h
theorem live_add(l:List VersionD)(v:VersionD):jyj (jch l) v=jch (l++[v]):=by
 have h:=jst (l++[v]) l.length (v:=v) (by simp)
 rw[List.take_left' rfl,List.take_of_length_le (by simp)]at h
 exact h
theorem own_blkV{w:World}{base:Nat}{e:TypeId}{q:Nat}{v:Value}{n:Nat}{xs:List Value}(h:w.ownsRow base e q v n xs){g:Nat}(hg:v.ownBlock=some g):∃cs,w.heap[g]? =some (.cells cs e (0,0)):=by
 rcases h.2 with⟨h1,_⟩|⟨g',_,cur,h1,_,h2,_⟩
 ·rw[h1]at hg;cases hg
 ·rw[h1]at hg
  injection hg with hg
  subst hg
  exact⟨cur,h2⟩
theorem impl_add(s:StoreD)(ok:Zr s)(gn:Bool)(ev:EventD)(Qq w:World)(x:Option Addr)(hK:BookC s Qq w x)(CG:s.vs.length<60)(h0:0<=s.tx)(h1:s.tx<900000)(hid:1<=ev.id/\ev.id<=1000000)(hL:(jan (s.vs++[verOf (s.tx+1) gn ev])).length<=900):
  Cl 67 #[.pointer x,ev.v,.bool gn] w (BAddP (addS s ev gn) Qq x):=by
 obtain⟨bb,lb,n,a1,a2,a3,a4,a5,a6,a8,a9,c1,c2,c3,c4,c5,c6,c8,c9,nm,wm,k,w0,B,a,b,c,d,e,f,ca,cb,cc,cd,ce,cf,rfl,hM,hn,F5,hk,bg,hE,hN,hW,⟨n1,n2,n3,n4,n5,n6⟩,oG,dC,hC⟩:=hK.ex
 have KS:IntKind.i64.wrap (s.tx+1)=s.tx+1:=by rw[IntKind.wrap_i64];omega
 obtain⟨id,name,zone,wall,gap,fold⟩:=ev
 simp only[EventD.v]at *
 have x0:=F5.more (0,iv s.tx) (by simp[bkX])
 have f0:=F5.free 0
 have aj:Zl (bkX ⟨s.tx+1,s.now,s.was,s.cur,s.vs,s.ix⟩ a1 a2 a3 a4 a5 a6 a8 a9 c1 c2 c3 c4 c5 c6 c8 c9) w0 (w.setCell (ad bb 0) (iv (s.tx+1))) s bb lb nm wm k k a b c d e f ca cb cc cd ce cf:=F5.set 0 _ (by omega) (by omega) n5 (fun p hp=>by
  simp only[bkX,List.mem_cons,List.not_mem_nil,or_false]at hp ⊢
  rcases hp with rfl|rfl|rfl|rfl|rfl|rfl|rfl|rfl|rfl<;>simp)
 have gR:Zm (w.setCell (ad bb 0) (iv (s.tx+1))) lb n (jch s.vs):=hM.kept (jck w bb 0 _) (by simpa using Ne.symm (not_in_map (live_map hM) F5.cur))
 have b1:=(brf (w.setCell (ad bb 0) (iv (s.tx+1))).heap.size (w.setCell (ad bb 0) (iv (s.tx+1)))).alloc (nlr _) (.cells #[iv id,.string name,.string zone,iv wall,iv gap,iv fold] 48)
 have aj:=aj.below b1
 have gR:=gR.below b1
 have E1:=Zh.new (w.setCell (ad bb 0) (iv (s.tx+1))) [iv id,.string name,.string zone,iv wall,iv gap,iv fold] 48
 rw[World.size_setCell]at E1
 have z1:((w.setCell (ad bb 0) (iv (s.tx+1))).alloc (.cells #[iv id,.string name,.string zone,iv wall,iv gap,iv fold] 48)).heap.size=w.heap.size+1:=by simp
 go_enter Tryz.func67,Tryz.ntmps67
 go_wp2_with fail
 clear b1 F5 x0 f0 hM hK
 generalize (w.setCell (ad bb 0) (iv (s.tx+1))).alloc (.cells #[iv id,.string name,.string zone,iv wall,iv gap,iv fold] 48)=wB at *
 have x0:=aj.more (0,iv (s.tx+1)) (by simp[bkX])
 have e0:=E1.c 0 rfl
 have e1:=E1.c 1 rfl
 have e2:=E1.c 2 rfl
 have e3:=E1.c 3 rfl
 have e4:=E1.c 4 rfl
 have e5:=E1.c 5 rfl
 go_region
 have b2:=qal wB (.cells #[iv (s.tx+1),.bool gn,iv id,.string name,.string zone,iv wall,iv gap,iv fold] 95)
 have b2:=b2.trans ((jab _).mono b2.size)
 have an:=aj.below b2
 have gS:=gR.below b2
 have V2:=(Zh.new wB [iv (s.tx+1),.bool gn,iv id,.string name,.string zone,iv wall,iv gap,iv fold] 95).below (jab _)
 rw[z1]at V2
 have z2:((wB.alloc (.cells #[iv (s.tx+1),.bool gn,iv id,.string name,.string zone,iv wall,iv gap,iv fold] 95)).drew).heap.size=w.heap.size+1+1:=by
  show(wB.alloc _).heap.size=_
  simp[z1]
 clear x0 e0 e1 e2 e3 e4 e5 E1 aj gR b2
 generalize (wB.alloc (.cells #[iv (s.tx+1),.bool gn,iv id,.string name,.string zone,iv wall,iv gap,iv fold] 95)).drew=wC at *
 have FA:=jwt ⟨s.tx+1,gn,id,name,zone,wall,gap,fold⟩ lb n (jch s.vs) wC.drew (gS.below (jab _)) (by unfold maxLen;omega) hid
 simp only[VersionD.v]at FA
 have Q9:=an.live
 have e0:=V2.c 0 rfl
 have e1:=V2.c 1 rfl
 have e2:=V2.c 2 rfl
 have e3:=V2.c 3 rfl
 have e4:=V2.c 4 rfl
 have e5:=V2.c 5 rfl
 have e6:=V2.c 6 rfl
 have e7:=V2.c 7 rfl
 have PG:some bb≠some lb:=by simpa using not_in_map (live_map gS) an.cur
 have Ui:some (w.heap.size+1)≠some lb:=by simpa using not_in_map (live_map gS) e0
 have jI:=hidP an
 have yJ:=hidP gS
 have Ia:=hidP V2
 clear an gS V2
 go_wp2_with fail
 go_region_held3 (fun w'=>w'.cell? (ad bb 10)=some (.map (some lb))/\w'.cell? (ad (w.heap.size+1) 0)=some (iv (s.tx+1))/\w'.cell? (ad (w.heap.size+1) 1)=some (.bool gn)/\w'.cell? (ad (w.heap.size+1) 2)=some (iv id)/\w'.cell? (ad (w.heap.size+1) 3)=some (.string name)/\w'.cell? (ad (w.heap.size+1) 4)=some (.string zone)/\w'.cell? (ad (w.heap.size+1) 5)=some (iv wall)/\w'.cell? (ad (w.heap.size+1) 6)=some (iv gap)/\w'.cell? (ad (w.heap.size+1) 7)=some (iv fold)) (go_keep) ((go_at_call 95;refine FA.mono ?_;rintro q wD ⟨rfl,gT,sC⟩;have wJ:=sC.cell (a:=(ad bb 10)) Q9 PG;have t0:=sC.cell (a:=(ad (w.heap.size+1) 0)) e0 Ui;have t1:=sC.cell (a:=(ad (w.heap.size+1) 1)) e1 Ui;have t2:=sC.cell (a:=(ad (w.heap.size+1) 2)) e2 Ui;have t3:=sC.cell (a:=(ad (w.heap.size+1) 3)) e3 Ui;have t4:=sC.cell (a:=(ad (w.heap.size+1) 4)) e4 Ui;have t5:=sC.cell (a:=(ad (w.heap.size+1) 5)) e5 Ui;have t6:=sC.cell (a:=(ad (w.heap.size+1) 6)) e6 Ui;have t7:=sC.cell (a:=(ad (w.heap.size+1) 7)) e7 Ui))
 obtain⟨M1,M2,M3,⟨m1,m2,m3,m4⟩,Pu,uE,Pv,_⟩:=hC.parts
 obtain⟨wE,ze,ax,On,Yr⟩:=(jI.out.below (jab wC)).turned bg sC n3 (by omega) PG (fun cs hc=>by
  obtain⟨es,cl,hm⟩:=live_map yJ.out
  rw[show wC.drew.heap[lb]? =wC.heap[lb]? from rfl,hm]at hc
  cases hc)
 have s3:=ax.bel.size
 have zC:=sC.size
 have KC:=hidP (Pu.keep (fun b h1 h2=>Yr b (by omega)))
 have KE:=hidP (uE.keep (fun b h1 h2=>Yr b (by omega)))
 have TQ:=(Pv.keep (fun b h1 h2=>Yr b (by omega))).below ax.bel
 have YM:=TQ.own
 rw[llm]at YM
 have qI:some bb≠(Value.slice a8 s.vs.length c8).ownBlock:=fun h=>by have:=TQ.top bb h.symm;omega
 have WS:=hidP TQ.top
 obtain⟨i0,hi,aG,aH,aF⟩:=ji0
 have x8:=ax.more (8,.slice a8 s.vs.length c8) (by simp[bkX])
 have f8:=ax.free 8
 have GY:(wD.alloc (.cells #[iv (s.tx+1),.bool gn,iv id,.string name,.string zone,iv wall,iv gap,iv fold] 95)).cell? (ad bb 8)=some (.slice a8 s.vs.length c8):=jaa (qal wD _) x8
 have RO:bb<wD.heap.size:=qbl x8
 have JE:M2<=wD.heap.size:=by omega
 have Hg:=hidP ax
 have Hu:=hidP gT
 have HH:=hidP (And.intro On (And.intro Yr ze))
 clear hC FA Q9 e0 e1 e2 e3 e4 e5 e6 e7 jI yJ Ia sC Pu uE Pv TQ ax gT wJ On Yr ze
 go_wp2_with fail
 go_region_law (refine step_append_lies _ (by rfl) (.tmp 35) (.tmp 37) 40 (by rfl) M2 95 i0 (.agg #[iv 0,.bool false,iv 0,.string ⟨#[]⟩,.string ⟨#[]⟩,iv 0,iv 0,iv 0]) 8 80 Tryz.underlying40 hi aG aH aF rfl (by omega) (.slice a8 s.vs.length c8) s.vs.length (s.vs.map VersionD.cs).flatten (by rfl) (woa (w:=wD.drew) YM _) (ad wD.heap.size 0) 1 1 [iv (s.tx+1),.bool gn,iv id,.string name,.string zone,iv wall,iv gap,iv fold] (by rfl) rfl (jah _ _ _) (by intro u hu;simp at hu;rcases hu with rfl|rfl|rfl|rfl|rfl|rfl|rfl|rfl<;>rfl) (by omega) (by unfold maxLen;omega) (by omega) (by simp;omega) _ rfl ?_;intro g1 aC wF av af bE hlt1;have r1:=af.cell (a:=(ad bb 8)) (jaa (qal wD.drew _) x8) qI;have r2:=(af.frozen_far (ad bb 8) (by simp;omega) qI).trans (((jaf (qal wD.drew _)).2 _ _ (by simp;omega)).trans f8))
 all_goals
  have bA:=(jab wD).trans ((qal wD.drew (.cells #[iv (s.tx+1),.bool gn,iv id,.string name,.string zone,iv wall,iv gap,iv fold] 95)).mono (nlr _))
  have aR:=Hg.out.below bA
  have Fm:=jac YM bA
  have RU:=HH.out.2.2
  obtain⟨wG,zG,bG,Xj,Ql⟩:=aR.appended HH.out.1 af (M2:=M2) (M3:=M3) (fun g hg=>⟨(World.ownsRow.lt Fm g hg).1,WS.out g hg,own_blkV Fm hg⟩) (by omega) (by omega) (by omega)
  have Qn:some lb≠(Value.slice a8 s.vs.length c8).ownBlock:=fun h=>by have:=(World.ownsRow.lt Fm lb h.symm).1;omega
  have lx:=(Hu.out.below bA).kept af Qn
  have cQ:g1≠bb:=by
   rcases bE with h|h
   ·have:=WS.out g1 h;omega
   ·simp at h;omega
  have Bp:=lx.kept (jck wF bb 8 (so g1 (s.vs.length+1) aC)) (by simp;omega)
  rw[live_add]at Bp
  have fV:=World.ownsRow.kept av (jck wF bb 8 (so g1 (s.vs.length+1) aC)) (.inr (by simp[Value.ownBlock];omega))
  have cp:Zl (bkX ⟨s.tx+1,s.now,s.was,s.cur,s.vs++[⟨s.tx+1,gn,id,name,zone,wall,gap,fold⟩],s.ix⟩ a1 a2 a3 a4 a5 a6 (some (ad g1 0)) a9 c1 c2 c3 c4 c5 c6 aC c9) wG (wF.setCell (ad bb 8) (so g1 (s.vs.length+1) aC)) s bb lb nm wm k k a b c d e f ca cb cc cd ce cf:=bG.set 8 _ (by omega) (by omega) (by omega) (fun p hp=>by
   simp only[bkX,List.mem_cons,List.not_mem_nil,or_false]at hp ⊢
   rcases hp with rfl|rfl|rfl|rfl|rfl|rfl|rfl|rfl|rfl<;>simp)
  obtain⟨cur,Kr⟩:=own_blkV fV (g:=g1) rfl
  have h7:nm≠g1:=fun h=>by
   obtain⟨es,cl,hm⟩:=jjr cp.cn
   rw[h,Kr]at hm
   cases hm
  have h8:wm≠g1:=fun h=>by
   obtain⟨es,cl,hm⟩:=jjr cp.cw
   rw[h,Kr]at hm
   cases hm
  have jy:=impl_bookEntriesG wG s bb lb nm wm (n+1) k g1 _ a b c d e f ca cb cc cd ce cf _ (jan (s.vs++[⟨s.tx+1,gn,id,name,zone,wall,gap,fold⟩])) _ (hE.of_below Xj) (hN.below Xj) (hW.below Xj) ok.now ok.was oG dC cp n1 n2 Kr h7 h8 Bp (jga _) (jhr _) (show k+(jan (s.vs++[verOf (s.tx+1) gn ⟨id,name,zone,wall,gap,fold⟩])).length<=1000 by omega)
  have Hx:=hidP fV
  have HG:=hidP (And.intro Xj (And.intro Ql zG))
  have zF:=cp.bel.size
  have Ry:=cp.cur
  have HX:=hidP (jep (momB s) (jan (s.vs++[⟨s.tx+1,gn,id,name,zone,wall,gap,fold⟩])))
  clear bA aR Fm bG Xj Ql lx Bp fV cp h7 h8 af av bE hlt1 r1 r2 x8 GY f8 YM Hg Hu t0 t1 t2 t3 t4 t5 t6 t7 hi aG aH aF zG Qn hE hN hW
  generalize wF.setCell (ad bb 8) (so g1 (s.vs.length+1) aC)=wH at *
  have I3:Hid (addS s ⟨id,name,zone,wall,gap,fold⟩ gn=⟨s.tx+1,s.now,s.was,s.cur,s.vs++[⟨s.tx+1,gn,id,name,zone,wall,gap,fold⟩],entF (momB s) (jan (s.vs++[⟨s.tx+1,gn,id,name,zone,wall,gap,fold⟩]))⟩):=rfl
  generalize entF (momB s) (jan (s.vs++[⟨s.tx+1,gn,id,name,zone,wall,gap,fold⟩]))=EE at *
  go_wp2_with fail
  refine jy.mono ?_
  rintro q w9 pY
  obtain⟨v9,rfl,eB⟩:=pY.ex
  obtain⟨j,hj,fS,Yt⟩:=pY.inv
  obtain⟨p9,d9,rfl⟩:=own_shape2 eB
  have x9:=fS.more (9,.slice a9 s.ix.length c9) (by simp[bkX])
  have f9:=fS.free 9
  have lW:Zl (bkX ⟨s.tx+1,s.now,s.was,s.cur,s.vs++[⟨s.tx+1,gn,id,name,zone,wall,gap,fold⟩],EE⟩ a1 a2 a3 a4 a5 a6 (some (ad g1 0)) p9 c1 c2 c3 c4 c5 c6 aC d9) wG (w9.setCell (ad bb 9) (.slice p9 EE.length d9)) s bb lb nm wm (k+j) (k+j) a b c d e f ca cb cc cd ce cf:=fS.set 9 _ (by omega) (by omega) (by have:=HG.out.2.2;omega) (fun p hp=>by
   simp only[bkX,List.mem_cons,List.not_mem_nil,or_false]at hp ⊢
   rcases hp with rfl|rfl|rfl|rfl|rfl|rfl|rfl|rfl|rfl<;>simp)
  have zG:=HG.out.2.2
  have RP:bb<wH.heap.size:=qbl Ry
  have wY:∀b,b<M2->(w9.setCell (ad bb 9) (.slice p9 EE.length d9)).heap[b]? =wE.heap[b]? :=fun b hb=>(heap_setCell_other w9 (ad bb 9) b _ (by simp;omega)).trans ((fS.bel.block b (by omega)).trans (HG.out.2.1 b hb))
  have PS:(w9.setCell (ad bb 9) (.slice p9 EE.length d9)).heap[g1]? =wH.heap[g1]? :=(heap_setCell_other w9 (ad bb 9) g1 _ (by simpa using cQ)).trans (Yt.trans Kr.symm)
  have uB:=World.ownsRow.kept eB (jck w9 bb 9 (.slice p9 EE.length d9)) (by
   cases h:(Value.slice p9 EE.length d9).ownBlock with
   |none=>exact .inl rfl
   |some x=>exact .inr (by have:=(World.ownsRow.lt eB x h).1;simp;omega))
  have RL:=pY.size
  have QQ:Hid (StC (w9.setCell (ad bb 9) (.slice p9 EE.length d9)) B (w9.setCell (ad bb 9) (.slice p9 EE.length d9)).heap.size (.agg (stA ⟨s.tx+1,s.now,s.was,s.cur,s.vs++[⟨s.tx+1,gn,id,name,zone,wall,gap,fold⟩],EE⟩ a1 a2 a3 a4 a5 a6 (some (ad g1 0)) p9 c1 c2 c3 c4 c5 c6 aC d9).toArray) ⟨s.tx+1,s.now,s.was,s.cur,s.vs++[⟨s.tx+1,gn,id,name,zone,wall,gap,fold⟩],EE⟩):=⟨a1,a2,a3,a4,a5,a6,some (ad g1 0),p9,c1,c2,c3,c4,c5,c6,aC,d9,M1,M2,wH.heap.size,rfl,⟨m1,m2,by omega,by rw[World.size_setCell];omega⟩,KC.out.keep fun b _ h2=>wY b (by omega),KE.out.keep fun b _ h2=>wY b h2,⟨own_moved (ver_row Hx.out) PS,fun x hx=>by injection hx with hx;subst hx;exact(World.ownsRow.lt Hx.out g1 rfl).2⟩,⟨by rw[llm];exact uB,fun x hx=>by rw[World.size_setCell];exact(World.ownsRow.lt eB x hx).2⟩⟩
  have QK:=hidP (HG.out.1.trans (lW.bel.mono HG.out.1.size))
  have WO:=hidP lW
  clear jy lW uB PS wY eB Yt pY fS Hx KC KE HG
  go_wp2
  exact bodyPost_end (results_none Tryz.results67 _ _ _) rfl (by rw[I3.out];exact⟨rfl,⟨bb,a1,a2,a3,a4,a5,a6,some (ad g1 0),p9,c1,c2,c3,c4,c5,c6,aC,d9,B,_,rfl,WO.out.more,WO.out.cur,QQ.out,by omega,nlr _⟩,QK.out⟩)
end
section
open Go.RowKit Go.ChangeMaps Go.MapKept Go.WideMaps Go.Sort
theorem Zm.lookW{w:World}{b n:Nat}{f:Int->Option EventD}(h:Zm w b n f){id:Int}(hw:(Lit.int .i64 id).wf=true):∃e:EventD,(Instr.lookup 104 (.map (some b)) (iv id) true).run Tryz.prog w=.ok (.tuple #[e.v,.bool (f id).isSome]) w/\∀x,f id=some x->e=x:=by
 obtain⟨D,h1,h2⟩:=h.own
 obtain⟨v,ps,hr,hv⟩:=h1.look_ok (Maps.int_keyed keyT) mapT (juf w) (jo4 _) (Maps.keyOf_int_mk keyT hw)
 obtain⟨e,rfl,he⟩:=jde hv
 cases hf:f id with
 |none=>exact⟨e,by rw[hr,(h2 id e).2 hf];rfl,fun x hx=>by cases hx⟩
 |some y=>
  obtain⟨a,c⟩:=(h2 id y).1 hf
  refine⟨e,by rw[hr,a];rfl,fun x hx=>?_⟩
  obtain rfl:=osi hx
  rw[c]at he
  have h3:=congrArg Prod.fst he
  simp only[DataW.held.injEq]at h3
  exact h3.symm
def fullB(s:StoreD):Bool:=decide (s.vs.length=60) || decide (s.tx=900000)
theorem impl_full(s:StoreD)(bb:Nat)(a8:Option Addr)(c8:Nat)(w:World)(x0:w.cell? (ad bb 0)=some (iv s.tx))(x8:w.cell? (ad bb 8)=some (.slice a8 s.vs.length c8)):
  Cl 66 #[.pointer (some (ad bb 0))] w fun e w'=>e=.returned (.bool (fullB s))/\w'=w:=by
 unfold fullB
 generalize s.vs.length=n at *
 generalize s.tx=t at *
 by_cases h1:n=60
 ·subst h1
  go_enter Tryz.func66,Tryz.ntmps66
  go_wp2
  go_ret
  exact⟨rfl,rfl⟩
 ·rw[dfe h1,Bool.false_or]
  have h2:((n:Int)==60)=false:=by simp;omega
  by_cases h3:t=900000
  ·subst h3
   go_enter Tryz.func66,Tryz.ntmps66
   go_wp2
   go_ret
   exact⟨rfl,rfl⟩
  ·rw[dfe h3]
   have h4:(t==900000)=false:=by simpa using h3
   go_enter Tryz.func66,Tryz.ntmps66
   go_wp2
   go_ret
   exact⟨rfl,rfl⟩
def zeroS:StoreD:=⟨0,⟨[],[],[]⟩,⟨[],[],[]⟩,0,[],[]⟩
theorem RelC.nil(w:World)(B U:Nat)(h:B<=U):RelC w B U nS nS nS ⟨[],[],[]⟩:=⟨B,B,B,[],⟨by omega,by omega,by omega,h⟩,RowC.nil _ _ _ _ _,⟨rfl,fun i z hz=>by simp at hz,fun i j _ _ _ _ _ _ _ _ _ hz=>by simp at hz⟩,fun x hx=>by simp at hx,RowC.nil _ _ _ _ _,RowC.nil _ _ _ _ _⟩
theorem StC.nil(w:World)(B U:Nat)(h:B<=U):StC w B U (.agg (stA zeroS none none none none none none none none 0 0 0 0 0 0 0 0).toArray) zeroS:=⟨none,none,none,none,none,none,none,none,0,0,0,0,0,0,0,0,B,B,B,rfl,⟨by omega,by omega,by omega,h⟩,RelC.nil w B B (by omega),RelC.nil w B B (by omega),RowC.nil _ _ _ _ _,RowC.nil _ _ _ _ _⟩
structure OutP(s:StoreD)(m c:Int)(w:World)(q:Ending)(w':World):Prop where
 ex:∃a1 a2 a3 a4 a5 a6 a8 a9 c1 c2 c3 c4 c5 c6 c8 c9,q=.returned (.agg (outA s a1 a2 a3 a4 a5 a6 a8 a9 c1 c2 c3 c4 c5 c6 c8 c9 m c).toArray)/\StC w' w.heap.size w'.heap.size (.agg (stA s a1 a2 a3 a4 a5 a6 a8 a9 c1 c2 c3 c4 c5 c6 c8 c9).toArray) s
 bel:Bw w w'
end
section
open Go.RowKit Go.ChangeMaps Go.MapKept Go.WideMaps Go.Sort
theorem impl_outE(m c:Int)(hc:c≠0)(x:Option Addr)(w:World):
  Cl 28 #[.pointer x,iv m,iv c] w fun q w'=>q=.returned (.agg #[iv 0,nS,nS,nS,nS,nS,nS,iv 0,nS,nS,iv 0,iv c])/\Bw w w':=by
 have h1:(c != 0)=true:=by simpa using hc
 go_enter Tryz.func28,Tryz.ntmps28
 go_wp2
 exact bpr (v:=.agg #[iv 0,nS,nS,nS,nS,nS,nS,iv 0,nS,nS,iv 0,iv c]) (by simp[results,Tryz.results28,go_sem]) rfl ⟨rfl,qal _ _⟩
theorem impl_outK(s:StoreD)(a1 a2 a3 a4 a5 a6 a8 a9:Option Addr)(c1 c2 c3 c4 c5 c6 c8 c9:Nat)(m:Int)(bb:Nat)(w:World)(hX:∀p∈bkX s a1 a2 a3 a4 a5 a6 a8 a9 c1 c2 c3 c4 c5 c6 c8 c9,w.cell? (ad bb p.1)=some p.2)(h7:w.cell? (ad bb 7)=some (iv s.cur)):
  Cl 28 #[.pointer (some (ad bb 0)),iv m,iv 0] w fun q w'=>q=.returned (.agg (outA s a1 a2 a3 a4 a5 a6 a8 a9 c1 c2 c3 c4 c5 c6 c8 c9 m 0).toArray)/\Bw w w':=by
 have b1:=qal w (.cells #[iv 0,nS,nS,nS,nS,nS,nS,iv 0,nS,nS,iv 0,iv 0] 45)
 have k:=fun p hp=>jaa b1 (hX p hp)
 have x0:=k (0,iv s.tx) (by simp[bkX])
 have x1:=k (1,.slice a1 s.now.rules.length c1) (by simp[bkX])
 have x2:=k (2,.slice a2 s.now.zones.length c2) (by simp[bkX])
 have x3:=k (3,.slice a3 s.now.links.length c3) (by simp[bkX])
 have x4:=k (4,.slice a4 s.was.rules.length c4) (by simp[bkX])
 have x5:=k (5,.slice a5 s.was.zones.length c5) (by simp[bkX])
 have x6:=k (6,.slice a6 s.was.links.length c6) (by simp[bkX])
 have x8:=k (8,.slice a8 s.vs.length c8) (by simp[bkX])
 have x9:=k (9,.slice a9 s.ix.length c9) (by simp[bkX])
 have x7:=jaa b1 h7
 clear hX k h7 b1
 go_enter Tryz.func28,Tryz.ntmps28
 go_wp2
 exact bpr (v:=.agg (outA s a1 a2 a3 a4 a5 a6 a8 a9 c1 c2 c3 c4 c5 c6 c8 c9 m 0).toArray) (by simp[results,Tryz.results28,go_sem]) rfl ⟨rfl,qal _ _⟩
theorem store_parts{s:StoreD}(h:storeI s=true):s.vs.length<=60/\(0<=s.tx/\s.tx<=900000)/\txB s.vs s.tx=true/\(jan s.vs).length<=30:=by
 unfold storeI jov jk5 frmB txB jnr at h
 simp only[bat,decide_eq_true_eq]at h
 obtain⟨⟨⟨⟨h1,_⟩,_⟩,h2,_,h3⟩,_⟩:=h
 unfold txB
 simp only[bat,decide_eq_true_eq]
 exact⟨h2.1,by omega,h2,h3.1⟩
theorem live_len_add(l:List VersionD)(v:VersionD)(h:l.length<=800):(jan (l++[v])).length<=900:=by
 have:=jwf (l++[v]) (l++[v]).length
 unfold jan
 simp at this ⊢
 omega
theorem StC.wideS{w:World}{B U B' U':Nat}{v:Value}{s:StoreD}(h:StC w B U v s)(hB:B'<=B)(hU:U<=U'):StC w B' U' v s:=by
 obtain⟨a,b,c,d,e,f,va,ia,ca,cb,cc,cd,ce,cf,cv,ci,M1,M2,M3,h0,⟨k1,k2,k3,k4⟩,h2,h3,h4,h5⟩:=h.form
 exact⟨a,b,c,d,e,f,va,ia,ca,cb,cc,cd,ce,cf,cv,ci,M1,M2,M3,h0,⟨by omega,k2,k3,by omega⟩,h2.wide hB (nlr _),h3,h4,h5.wide (nlr _) hU⟩
end
section
open Go.RowKit Go.ChangeMaps Go.MapKept Go.WideMaps Go.Sort
theorem impl_hasZone(s:StoreD)(ok:Zr s)(nm:ByteArray)(Qq w:World)(x:Option Addr)(hK:BookC s Qq w x):
  Cl 65 #[.pointer x,.string nm] w fun e w'=>e=.returned (.bool (jdv s nm))/\Bw w w':=by
 obtain⟨bb,lb,n,a1,a2,a3,a4,a5,a6,a8,a9,c1,c2,c3,c4,c5,c6,c8,c9,mm,wm,k,w0,B,a,b,c,d,e,f,ca,cb,cc,cd,ce,cf,rfl,hM,hn,F5,hk,bg,hE,hN,hW,_,oG,dC,hC⟩:=hK.ex
 obtain⟨M1,M2,M3,_,dn,aM,_,_⟩:=hC.parts
 have dn:=dn.rel.below F5.bel
 have aM:=aM.rel.below F5.bel
 have eu:=(hE.of_below bg).of_below F5.bel
 have x1:=F5.more (1,.slice a1 s.now.rules.length c1) (by simp[bkX])
 have x2:=F5.more (2,.slice a2 s.now.zones.length c2) (by simp[bkX])
 have x3:=F5.more (3,.slice a3 s.now.links.length c3) (by simp[bkX])
 have x4:=F5.more (4,.slice a4 s.was.rules.length c4) (by simp[bkX])
 have x5:=F5.more (5,.slice a5 s.was.zones.length c5) (by simp[bkX])
 have x6:=F5.more (6,.slice a6 s.was.links.length c6) (by simp[bkX])
 have x7:=F5.cur
 have j8:=jqk s.now _ nm w eu dn ok.now oG
 have FH:=fun w hE h=>jqk s.was (.agg #[.slice a4 s.was.rules.length c4,.slice a5 s.was.zones.length c5,.slice a6 s.was.links.length c6]) nm w hE h ok.was dC
 unfold jdv
 clear hK hM hn F5 hk bg hE hN hW hC oG dC ok dn
 generalize inR s.now nm=pb at *
 generalize inR s.was nm=qb at *
 obtain⟨tx,now,was,cur,vs,ix⟩:=s
 dsimp only at *
 cases pb
 ·go_enter Tryz.func65,Tryz.ntmps65
  go_wp2_with fail
  refine j8.mono ?_
  rintro q w1 ⟨rfl,hb1⟩
  go_wp2
  go_ret
  exact⟨rfl,hb1⟩
 by_cases kA:cur=0
 ·subst kA
  go_enter Tryz.func65,Tryz.ntmps65
  go_wp2_with fail
  refine j8.mono ?_
  rintro q w1 ⟨rfl,hb1⟩
  have y7:=jaa hb1 x7
  go_wp2
  go_ret
  exact⟨rfl,hb1⟩
 rw[dfe kA]
 have aX:(cur==0)=false:=by simp[kA]
 go_enter Tryz.func65,Tryz.ntmps65
 go_wp2_with fail
 refine j8.mono ?_
 rintro q w1 ⟨rfl,hb1⟩
 have y7:=jaa hb1 x7
 have y4:=jaa hb1 x4
 have y5:=jaa hb1 x5
 have y6:=jaa hb1 x6
 have jx:=eu.of_below hb1
 have ks:=aM.below hb1
 clear x1 x2 x3 x4 x5 x6 x7 aM eu kA
 go_wp2_with fail
 refine(FH _ jx ks).mono ?_
 rintro q w2 ⟨rfl,ac⟩
 cases qb
 ·go_wp2
  go_ret
  exact⟨rfl,(qtr hb1 ac)⟩
 ·go_wp2
  go_ret
  exact⟨rfl,(qtr hb1 ac)⟩
def putC(s:StoreD)(e:EventD):Int:=if jbm e=true then(if jdv s e.zone=true then(if fullB s=true then 7 else if (jch s.vs e.id).isSome=true then 0 else if (jan s.vs).length=30 then 7 else 0)else 5)else 1
structure PutP(s:StoreD)(e:EventD)(Qq:World)(x:Option Addr)(q:Ending)(w':World):Prop where
 end_:q=.returned (iv (putC s e))
 add:putC s e=0->BAddP (addS s e false) Qq x (.returned (.tuple #[])) w'
 bel:Bw Qq w'
theorem impl_put(s:StoreD)(ok:Zr s)(ev:EventD)(Qq w:World)(x:Option Addr)(hK:BookC s Qq w x)(CG:s.vs.length<=60)(h0:0<=s.tx)(h1:s.tx<=900000)(hw:(Lit.int .i64 ev.id).wf=true)(m1:ev.name.size<=maxLen)(m2:ev.zone.size<=maxLen)(hid:jbm ev=true->1<=ev.id/\ev.id<=1000000)(hL:∀v,(jan (s.vs++[v])).length<=900):
  Cl 29 #[.pointer x,ev.v] w (PutP s ev Qq x):=by
 have mt:Bw Qq w:=by
  obtain⟨bb,lb,n,a1,a2,a3,a4,a5,a6,a8,a9,c1,c2,c3,c4,c5,c6,c8,c9,mm,wm,k,w0,B,a,b,c,d,e,f,ca,cb,cc,cd,ce,cf,_,_,_,F5,_,bg,_⟩:=hK.ex
  exact bg.trans (F5.bel.mono bg.size)
 have SG:=fun W=>jjd ev W m1 m2
 have Kx:=fun W x h=>impl_hasZone s ok ev.zone Qq W x h
 have hA:=fun W x h a b c=>impl_add s ok false ev Qq W x h a h0 b c (hL _)
 have OQ:=fun W bb a8 c8 h1 h2=>impl_full s bb a8 c8 W h1 h2
 have au:∀W x,BookC s Qq W x->∃bb lb,x=some (ad bb 0)/\W.cell? (ad bb 10)=some (.map (some lb))/\(∀W',Bw W W'->(∃e:EventD,(Instr.lookup 104 (.map (some lb)) (iv ev.id) true).run Tryz.prog W'=.ok (.tuple #[e.v,.bool (jch s.vs ev.id).isSome]) W')/\∀ty,(Builtin.len_ #[104] ty #[.map (some lb)]).run Tryz.prog W'=.ok (iv (jan s.vs).length) W')/\W.cell? (ad bb 0)=some (iv s.tx)/\∃a8 c8,W.cell? (ad bb 8)=some (.slice a8 s.vs.length c8):=fun W x hK=>by
  obtain⟨bb,lb,n,a1,a2,a3,a4,a5,a6,a8,a9,c1,c2,c3,c4,c5,c6,c8,c9,mm,wm,k,w0,B,a,b,c,d,e,f,ca,cb,cc,cd,ce,cf,rfl,hM,hn,F5,_⟩:=hK.ex
  refine⟨bb,lb,rfl,F5.live,fun W' hb=>⟨?_,fun ty=>?_⟩,F5.more (0,iv s.tx) (by simp[bkX]),a8,c8,F5.more (8,.slice a8 s.vs.length c8) (by simp[bkX])⟩
  ·obtain⟨e,he,_⟩:=(hM.below hb).lookW hw
   exact⟨e,he⟩
  ·obtain⟨D,d1,d2⟩:=(hM.below hb).own
   rw[<- jia d1 d2 (jga s.vs) (jhr s.vs.length)]
   exact d1.len mapT ty
 obtain⟨id,name,zone,wall,gap,fold⟩:=ev
 simp only[EventD.v]at *
 have b0:=qal w (.cells #[iv id,.string name,.string zone,iv wall,iv gap,iv fold] 48)
 have E0:=Zh.new w [iv id,.string name,.string zone,iv wall,iv gap,iv fold] 48
 have Sy:=hK.below b0
 have bg:=qtr mt b0
 obtain⟨we,T9⟩:=qeb (w.alloc (.cells #[iv id,.string name,.string zone,iv wall,iv gap,iv fold] 48))
 rw[T9]at E0 Sy bg
 obtain⟨bb,lb,rfl,_⟩:=au _ _ Sy
 have e0:=E0.c 0 rfl
 have e1:=E0.c 1 rfl
 have e2:=E0.c 2 rfl
 have e3:=E0.c 3 rfl
 have e4:=E0.c 4 rfl
 have e5:=E0.c 5 rfl
 clear hK b0 mt
 go_enter Tryz.func29,Tryz.ntmps29
 go_wp2_with fail
 clear T9
 refine(SG _).mono ?_
 rintro q w1 ⟨rfl,hb1⟩
 cases he:jbm ⟨id,name,zone,wall,gap,fold⟩
 ·have HC:Hid (putC s ⟨id,name,zone,wall,gap,fold⟩=1):=by simp[Hid,putC,he]
  have HB:=hidP (qtr bg hb1)
  clear he au hA OQ SG Kx hid
  go_wp2
  go_ret
  exact⟨(by rw[HC.out];rfl),fun h=>by rw[HC.out]at h;omega,HB.out⟩
 have hid:=hid he
 have E1:=E0.below hb1
 have wX:=Sy.below hb1
 have Si:=qtr bg hb1
 clear e0 e1 e2 e3 e4 e5 E0 Sy bg hb1 SG
 have e2:=E1.c 2 rfl
 go_wp2_with fail
 refine(Kx _ _ wX).mono ?_
 rintro q w2 ⟨rfl,ac⟩
 cases hz:jdv s zone
 ·have HC:Hid (putC s ⟨id,name,zone,wall,gap,fold⟩=5):=by simp[Hid,putC,he,hz]
  have HB:=hidP (qtr Si ac)
  clear he hz au hA OQ Kx
  go_wp2
  go_ret
  exact⟨(by rw[HC.out];rfl),fun h=>by rw[HC.out]at h;omega,HB.out⟩
 have E2:=E1.below ac
 have SD:=wX.below ac
 have Ss:=qtr Si ac
 clear e2 E1 wX Si ac Kx
 obtain⟨_,lb,wi,Q9,i8,_⟩:=au _ _ SD
 injection wi with wi
 injection wi with wi
 subst wi
 have e0:=E2.c 0 rfl
 obtain⟨Tk,vd⟩:=(i8 _ (jab w2)).1
 have b2:=qal w2 (.cells #[iv 0,.string ⟨#[]⟩,.string ⟨#[]⟩,iv 0,iv 0,iv 0] 48)
 have Sx:=b2.trans ((jab _).mono b2.size)
 obtain⟨Tl,fG⟩:=(i8 _ Sx).1
 have y10:=jaa b2 Q9
 have y0:=jaa b2 e0
 have hT:∀ty,(Builtin.len_ #[104] ty #[.map (some lb)]).run Tryz.prog w2=.ok (iv (jan s.vs).length) w2:=(i8 _ (brf _ _)).2
 have bz:=jab w2
 generalize hfs:(jch s.vs id).isSome=fs at *
 go_upto_region 5 with fail
 go_cut [6]from 5 to 24 (fun s6 wx=>s6=.bool fs/\Hid (Bw w2 wx))
 case first=>
  go_region
  all_goals (go_wp2;go_meet;exact⟨rfl,by first|exact bz.alloc bz.size _|exact bst _ _ _ (nlr _) (bz.alloc bz.size _)|exact Sx|exact Sx⟩)
 case rest=>
  obtain⟨rfl,ar⟩:=hcut
  obtain⟨w3,gm⟩:=qea wc
  subst gm
  have ar:=ar.out
  have Sh:=SD.below ar
  have E3:=E2.below ar
  have St:=qtr Ss ar
  clear vd fG b2 Sx y10 y0 hT bz Q9 e0 i8 ar Ss E2 SD Tk Tl
  obtain⟨_,Tr,wi,z10,Su,z0,a8,c8,z8⟩:=au _ _ Sh
  injection wi with wi
  injection wi with wi
  subst wi
  have eN:=OQ _ bb a8 c8 z0 z8
  have j5:=(Su _ (brf _ _)).2
  clear au OQ Su z0 z8
  go_wp2_with fail
  refine eN.mono ?_
  rintro q w4 ⟨rfl,yj⟩
  have yj:=yj.symm
  subst yj
  clear eN
  cases hfl:fullB s
  ·have eQ:s.vs.length<60/\s.tx<900000:=by
    unfold fullB at hfl
    simp only[Bool.or_eq_false_iff,decide_eq_false_iff_not]at hfl
    omega
   have Sq:=hA _ _ Sh eQ.1 eQ.2 hid
   have e0:=E3.c 0 rfl
   have e1:=E3.c 1 rfl
   have e2:=E3.c 2 rfl
   have e3:=E3.c 3 rfl
   have e4:=E3.c 4 rfl
   have e5:=E3.c 5 rfl
   clear hA Sh E3 eQ
   have HB:=hidP St
   by_cases lm:fs=false/\(jan s.vs).length=30
   ·obtain⟨rfl,lm⟩:=lm
    have HC:Hid (putC s ⟨id,name,zone,wall,gap,fold⟩=7):=by simp[Hid,putC,he,hz,hfl,hfs,lm]
    have J4:(((jan s.vs).length:Int)==30)=true:=by simp;omega
    clear hfs he hz e0 e1 e2 e3 e4 e5 Sq
    go_wp2
    go_ret
    exact⟨(by rw[HC.out];rfl),fun h=>by rw[HC.out]at h;omega,HB.out⟩
   have HC:Hid (putC s ⟨id,name,zone,wall,gap,fold⟩=0):=by
    cases fs<;>simp_all [Hid,putC]
   have J4:fs=false->(((jan s.vs).length:Int)==30)=false:=fun h=>by
    have:¬_=_:=fun x=>lm ⟨h,x⟩
    simp;omega
   clear hfs he hz lm
   cases fs
   all_goals
    first|have J4:=J4 rfl|clear J4
    go_wp2_with fail
    refine Sq.mono ?_
    rintro q w5 hP
    obtain rfl:=hP.end_
    have HP:=hidP hP
    clear e0 e1 e2 e3 e4 e5 Sq hP
    go_wp2
    go_ret
    exact⟨(by rw[HC.out];rfl),fun _=>HP.out,HP.out.bel⟩
  ·have HC:Hid (putC s ⟨id,name,zone,wall,gap,fold⟩=7):=by simp[Hid,putC,he,hz,hfl]
   clear hfs he hz
   clear hA Sh E3
   have HB:=hidP St
   go_wp2
   go_ret
   exact⟨(by rw[HC.out];rfl),fun h=>by rw[HC.out]at h;omega,HB.out⟩
end
section
open Go.RowKit Go.ChangeMaps Go.MapKept Go.WideMaps Go.Sort
def putD(s:StoreD)(e:EventD):StoreD × Int:=if storeI s=true then(if putC s e=0 then addS s e false else zeroS,putC s e)else(zeroS,1)
theorem event_id{e:EventD}(h:jbm e=true):1<=e.id/\e.id<=1000000:=by
 unfold jbm isB at h
 simp only[bat,decide_eq_true_eq]at h
 exact h.1
theorem impl_Put(s:StoreD)(v:Value)(ev:EventD)(w:World)(hE:Zx w)(hv:Jd w v s)(ok:Zr s)(hw:(Lit.int .i64 ev.id).wf=true)(m1:ev.name.size<=maxLen)(m2:ev.zone.size<=maxLen):
  Cl 9 #[v,ev.v] w (OutP (putD s ev).1 0 (putD s ev).2 w):=by
 have dQ:=hv
 obtain⟨a,b,c,d,e,f,va,ia,ca,cb,cc,cd,ce,cf,cv,ci,rfl,_,_,_,_,_,_⟩:=hv.form
 obtain⟨w0,KR,ag,A0,E0,R0,z0⟩:=three_out w (stA s a b c d e f va ia ca cb cc cd ce cf cv ci) ev.cs
 have hO:=impl_openedC j29 s _ _ (hE.of_below ag) (dQ.below ag) ok
 have Sj:=fun h W x hK=>impl_put s ok ev w0 W x hK (store_parts h).1 (store_parts h).2.1.1 (store_parts h).2.1.2 hw m1 m2 event_id (fun v=>live_len_add s.vs v (by have:=(store_parts h).1;omega))
 obtain⟨id,name,zone,wall,gap,fold⟩:=ev
 simp only[EventD.v,EventD.cs]at *
 obtain⟨x0,x1,x2,x3,x4,x5,x6,x7,x8,x9⟩:=A0.ten
 have lQ:=hidP R0
 have E7:=hidP ag
 have SR:=hidP z0
 have SY:=hidP E0
 clear hv dQ hE A0 R0 ag z0 E0
 cases hs:storeI s
 case false=>
  have HD:Hid (putD s ⟨id,name,zone,wall,gap,fold⟩=(zeroS,1)):=by simp[Hid,putD,hs]
  rw[HD.out]
  clear Sj
  go_enter Tryz.func9,Tryz.ntmps9
  go_wp2_with fail
  clear KR x0 x1 x2 x3 x4 x5 x6 x7 x8 x9
  refine hO.mono ?_
  rintro q w3 hP
  obtain⟨xb,rfl,_⟩:=hP.ex
  rw[hs]
  have ar:=hP.bel
  have l3:=ar.size
  rw[SR.out]at l3
  have ax:=qtr E7.out ar
  have R3:=lQ.out.below ar
  have xO:=StC.nil w3 (w.heap.size+1+1+1) w3.heap.size l3
  obtain⟨r0,r1,r2,r3,r4,r5,r6,r7,r8,r9,SN,SO⟩:=R3.twC
  obtain⟨f0,f1,f2,f3,f4,f5,f6,f7,f8,f9,SJ,SK⟩:=R3.twF
  obtain⟨W,hW,⟨t0,t1,t2,t3,t4,t5,t6,t7,t8,t9,wJ,Qy⟩,T3,Gr,J8⟩:=R3.finZ 1
  have yA:=hidP (J8 _ _ (by omega) ax)
  have SQ:=hidP (((xO.touch T3 (fun b h1 _ h2=>by omega)).wideS (show w.heap.size<=_ by omega) (Nat.le_of_eq Gr.symm)))
  clear J8 R3 T3 Gr xO ax hO hP ar
  go_wp2
  exact bpr (v:=.agg #[iv 0,nS,nS,nS,nS,nS,nS,iv 0,nS,nS,iv 0,iv 1]) (by simp[results,Tryz.results9,go_sem,t0,t1,t2,t3,t4,t5,t6,t7,t8,t9,wJ,Qy]) rfl ⟨⟨none,none,none,none,none,none,none,none,0,0,0,0,0,0,0,0,rfl,SQ.out⟩,yA.out⟩
 case true=>
  have Sj:=Sj hs
  have HD:Hid (putD s ⟨id,name,zone,wall,gap,fold⟩=(if putC s ⟨id,name,zone,wall,gap,fold⟩=0 then addS s ⟨id,name,zone,wall,gap,fold⟩ false else zeroS,putC s ⟨id,name,zone,wall,gap,fold⟩)):=by simp[Hid,putD,hs]
  have sj:=fun c (hc:c≠0) x W=>impl_outE 0 c hc x W
  go_enter Tryz.func9,Tryz.ntmps9
  go_wp2_with fail
  clear KR x0 x1 x2 x3 x4 x5 x6 x7 x8 x9
  refine hO.mono ?_
  rintro q w1 hP
  obtain⟨xb,rfl,hK⟩:=hP.ex
  have hK:=hK hs
  have E1:=SY.out.below hP.bel
  have e0:=E1.c 0 rfl
  have e1:=E1.c 1 rfl
  have e2:=E1.c 2 rfl
  have e3:=E1.c 3 rfl
  have e4:=E1.c 4 rfl
  have e5:=E1.c 5 rfl
  rw[hs]
  clear hO hP hs SY E1
  go_wp2_with fail
  clear e0 e1 e2 e3 e4 e5
  refine(Sj _ _ hK).mono ?_
  rintro q w2 iB
  obtain rfl:=iB.end_
  have ac:=iB.bel
  have l2:=ac.size
  rw[SR.out]at l2
  by_cases hc:putC s ⟨id,name,zone,wall,gap,fold⟩=0
  ·have Hi:Hid (putD s ⟨id,name,zone,wall,gap,fold⟩=(addS s ⟨id,name,zone,wall,gap,fold⟩ false,0)):=by simp only[Hid];rw[HD.out,hc];rfl
   obtain⟨bb,a1,a2,a3,a4,a5,a6,a8,a9,c1,c2,c3,c4,c5,c6,c8,c9,B,U,rfl,hX,h7,Yo,dr,Rf⟩:=(iB.add hc).ex
   rw[SR.out]at dr
   rw[hc]
   generalize addS s ⟨id,name,zone,wall,gap,fold⟩ false=D at *
   have Re:=impl_outK D a1 a2 a3 a4 a5 a6 a8 a9 c1 c2 c3 c4 c5 c6 c8 c9 0 bb w2 hX h7
   have Z6:=hidP Yo
   clear HD Sj iB hK hw hX h7 Yo sj hc
   go_wp2_with fail
   refine Re.mono ?_
   rintro q w3 ⟨rfl,ar⟩
   have n9:=qtr ac ar
   have l3:=n9.size
   rw[SR.out]at l3
   have ax:=qtr E7.out n9
   have R3:=lQ.out.below n9
   have xO:=(Z6.out.below ar).wideS dr (Nat.le_trans Rf ar.size)
   obtain⟨r0,r1,r2,r3,r4,r5,r6,r7,r8,r9,SN,SO⟩:=R3.twC
   obtain⟨f0,f1,f2,f3,f4,f5,f6,f7,f8,f9,SJ,SK⟩:=R3.twF
   obtain⟨W,hW,⟨t0,t1,t2,t3,t4,t5,t6,t7,t8,t9,wJ,Qy⟩,T3,Gr,J8⟩:=R3.fin (iv D.tx) (.slice a1 D.now.rules.length c1) (.slice a2 D.now.zones.length c2) (.slice a3 D.now.links.length c3) (.slice a4 D.was.rules.length c4) (.slice a5 D.was.zones.length c5) (.slice a6 D.was.links.length c6) (iv D.cur) (.slice a8 D.vs.length c8) (.slice a9 D.ix.length c9) (iv 0) (iv 0)
   have yA:=hidP (J8 _ _ (by omega) ax)
   have SQ:=hidP (((xO.touch T3 (fun b h1 _ h2=>by omega)).wideS (show w.heap.size<=_ by omega) (Nat.le_of_eq Gr.symm)))
   clear J8 R3 T3 Gr xO ax ar n9 ac
   go_wp2
   exact bpr (v:=.agg #[iv D.tx,.slice a1 D.now.rules.length c1,.slice a2 D.now.zones.length c2,.slice a3 D.now.links.length c3,.slice a4 D.was.rules.length c4,.slice a5 D.was.zones.length c5,.slice a6 D.was.links.length c6,iv D.cur,.slice a8 D.vs.length c8,.slice a9 D.ix.length c9,iv 0,iv 0]) (by simp[results,Tryz.results9,go_sem,t0,t1,t2,t3,t4,t5,t6,t7,t8,t9,wJ,Qy]) rfl (by rw[Hi.out];exact⟨⟨a1,a2,a3,a4,a5,a6,a8,a9,c1,c2,c3,c4,c5,c6,c8,c9,rfl,SQ.out⟩,yA.out⟩)
  ·have Hi:Hid (putD s ⟨id,name,zone,wall,gap,fold⟩=(zeroS,putC s ⟨id,name,zone,wall,gap,fold⟩)):=by simp only[Hid];rw[HD.out,if_neg hc]
   clear HD Sj iB hK hw
   generalize putC s ⟨id,name,zone,wall,gap,fold⟩=pc at *
   go_wp2_with fail
   refine(sj pc hc _ _).mono ?_
   rintro q w3 ⟨rfl,ar⟩
   have n9:=qtr ac ar
   have l3:=n9.size
   rw[SR.out]at l3
   have ax:=qtr E7.out n9
   have R3:=lQ.out.below n9
   have xO:=StC.nil w3 (w.heap.size+1+1+1) w3.heap.size l3
   obtain⟨r0,r1,r2,r3,r4,r5,r6,r7,r8,r9,SN,SO⟩:=R3.twC
   obtain⟨f0,f1,f2,f3,f4,f5,f6,f7,f8,f9,SJ,SK⟩:=R3.twF
   obtain⟨W,hW,⟨t0,t1,t2,t3,t4,t5,t6,t7,t8,t9,wJ,Qy⟩,T3,Gr,J8⟩:=R3.finZ pc
   have yA:=hidP (J8 _ _ (by omega) ax)
   have SQ:=hidP (((xO.touch T3 (fun b h1 _ h2=>by omega)).wideS (show w.heap.size<=_ by omega) (Nat.le_of_eq Gr.symm)))
   clear J8 R3 T3 Gr xO ax ar n9 ac
   go_wp2
   exact bpr (v:=.agg #[iv 0,nS,nS,nS,nS,nS,nS,iv 0,nS,nS,iv 0,iv pc]) (by simp[results,Tryz.results9,go_sem,t0,t1,t2,t3,t4,t5,t6,t7,t8,t9,wJ,Qy]) rfl (by rw[Hi.out];exact⟨⟨none,none,none,none,none,none,none,none,0,0,0,0,0,0,0,0,rfl,SQ.out⟩,yA.out⟩)
end
end Go.Proofs.YtknlhkipdfkddaaGreatDoor
