import Derived.Test.YtfghkjmbbfidoaaGreatDoorCPd
set_option maxRecDepth 20000
set_option maxHeartbeats 0
set_option linter.unusedSimpArgs false
namespace Go.Proofs.YtfghkjmbbfidoaaGreatDoor
section
open Go.RowKit Go.ChangeMaps Go.MapKept Go.WideMaps Go.Sort
theorem not_in_map{w:World}{b o:Nat}{v:Value}{lb:Nat}(hm:∃es c,w.heap[lb]? =some (.map es c))(h:w.cell? (ad b o)=some v):b≠lb:=fun e=>by
 subst e
 obtain⟨es,c,hm⟩:=hm
 simp[World.cell?,hm]at h
theorem RowC.keep{w w':World}{B U:Nat}{t:TypeId}{q:Nat}{v:Value}{rows:List (List Value)}(h:RowC w B U t q v rows)(hS:∀b,B<=b->b<U->w'.heap[b]? =w.heap[b]?):RowC w' B U t q v rows:=by
 obtain⟨⟨hl,hv⟩,h2⟩:=h
 refine⟨⟨hl,?_⟩,h2⟩
 rcases hv with h|⟨g,cap,cur,rfl,hB,hg,hr⟩
 ·exact .inl h
 ·exact .inr ⟨g,cap,cur,rfl,hB,(hS g hB (h2 g rfl)).trans hg,hr⟩
theorem RelC.keep{w w':World}{B U:Nat}{va vb vc:Value}{r:RelD}(h:RelC w B U va vb vc r)(hS:∀b,B<=b->b<U->w'.heap[b]? =w.heap[b]?):RelC w' B U va vb vc r:=by
 obtain⟨Z,R,L,zr,⟨k1,k2,k3,k4⟩,h2,h3,h4,h5,h6⟩:=h.ex
 exact⟨Z,R,L,zr,⟨k1,k2,k3,k4⟩,h2.keep fun b p q=>hS b p (by omega),⟨h3.len,fun i z hz=>by
  obtain⟨e,c,k1,k2⟩:=h3.at_ i z hz
  exact⟨e,c,k1,k2.keep fun b p q=>hS b (by omega) (by omega)⟩,h3.inc⟩,h4,h5.keep fun b p q=>hS b (by omega) (by omega),h6.keep fun b p q=>hS b (by omega) q⟩
theorem StC.parts{w:World}{B U:Nat}{s:StoreD}{a b c d e f va ia:Option Addr}{ca cb cc cd ce cf cv ci:Nat}(h:StC w B U (.agg (stA s a b c d e f va ia ca cb cc cd ce cf cv ci).toArray) s):∃M1 M2 M3,(B<=M1/\M1<=M2/\M2<=M3/\M3<=U)/\RelC w B M1 (.slice a s.now.rules.length ca) (.slice b s.now.zones.length cb) (.slice c s.now.links.length cc) s.now/\RelC w M1 M2 (.slice d s.was.rules.length cd) (.slice e s.was.zones.length ce) (.slice f s.was.links.length cf) s.was/\RowC w M2 M3 92 8 (.slice va s.vs.length cv) (s.vs.map VersionD.cs)/\RowC w M3 U 88 2 (.slice ia s.ix.length ci) (s.ix.map EntryD.cs):=by
 obtain⟨a',b',c',d',e',f',Sc,RW,NZ,Oa,Oc,RC,ND,RE,RH,RG,M1,M2,M3,hv,h1,h2,h3,h4,h5⟩:=h.form
 simp only[stA,Value.agg.injEq,Array.mk.injEq,List.cons.injEq,Value.slice.injEq,true_and,and_true]at hv
 obtain⟨⟨rfl,rfl⟩,⟨rfl,rfl⟩,⟨rfl,rfl⟩,⟨rfl,rfl⟩,⟨rfl,rfl⟩,⟨rfl,rfl⟩,⟨rfl,rfl⟩,rfl,rfl⟩:=hv
 exact⟨M1,M2,M3,h1,h2,h3,h4,h5⟩
theorem live_map{w:World}{b n:Nat}{f:Int->Option EventD}(h:Zm w b n f):∃es c,w.heap[b]? =some (.map es c):=by
 obtain⟨D,⟨es,aZ,hb,_⟩,_⟩:=h.own
 exact⟨es,aZ,hb⟩
theorem set_blk{w:World}{b j:Nat}{v:Value}{t:TypeId}(h:∃cs,w.heap[b]? =some (.cells cs t (0,0))):∃cs,(w.setCell (ad b j) v).heap[b]? =some (.cells cs t (0,0)):=by
 obtain⟨cs,hc⟩:=h
 rw[Go.Sort.setCell_eq]
 simp[Go.Sort.mapBlock,Array.getElem?_modify,hc]
 exact⟨_,rfl⟩
theorem Zl.set{X Y:List (Nat × Value)}{w0 w:World}{s:StoreD}{bb lb nm wm nn wn:Nat}{a b c d e f:Option Addr}{ca cb cc cd ce cf:Nat}(h:Zl X w0 w s bb lb nm wm nn wn a b c d e f ca cb cc cd ce cf)(j:Nat)(v:Value)(hj:j<10)(h7:j≠7)(hb:w0.heap.size<=bb)(hY:∀p∈Y,p=(j,v)\/p∈X/\p.1≠j):Zl Y w0 (w.setCell (ad bb j) v) s bb lb nm wm nn wn a b c d e f ca cb cc cd ce cf:=by
 have hg:=jck w bb j v
 have az:∀cs,w.heap[bb]? ≠some (.cells cs 164 (0,0)):=fun cs hc=>by
  obtain⟨ds,hd⟩:=h.blk
  rw[hd]at hc
  simp at hc
 have k:∀i u,i≠j->w.cell? (ad bb i)=some u->(w.setCell (ad bb j) v).cell? (ad bb i)=some u:=fun i u hi hu=>by
  rw[wco _ _ _ _ (by intro e;injection e with _ e;exact hi e.symm)];exact hu
 refine⟨h.bel.setCell hb _,k 7 _ (Ne.symm h7) h.cur,k 10 _ (by omega) h.live,k 11 _ (by omega) h.n0,k 12 _ (by omega) h.n1,k 13 _ (by omega) h.n2,k 14 _ (by omega) h.n3,k 15 _ (by omega) h.w1,k 16 _ (by omega) h.w2,k 17 _ (by omega) h.w3,k 18 _ (by omega) h.w4,h.cn.grown hg (Ne.symm h.ne_n) az,h.cw.grown hg (Ne.symm h.ne_w) az,h.ne,h.bn,h.bw,fun p hp=>?_,set_blk h.blk⟩
 rcases hY p hp with rfl|⟨h1,h2⟩
 ·obtain⟨cs,hc⟩:=h.blk
  obtain⟨ds,hd⟩:∃u,w.cell? (ad bb j)=some u:=by
   have AJ:=h.live
   simp only[World.cell?,hc]at AJ ⊢
   have hl:10<cs.size:=by
    rcases Nat.lt_or_ge 10 cs.size with h|h
    ·exact h
    ·simp[Array.getElem?_eq_none h]at AJ
   exact⟨_,by simp[Array.getElem?_eq_getElem (show j<cs.size by omega)];rfl⟩
  exact wcs _ _ _ hd
 ·exact k _ _ h2 (h.more p h1)
theorem Zl.free{X:List (Nat × Value)}{w0 w:World}{s:StoreD}{bb lb nm wm nn wn:Nat}{a b c d e f:Option Addr}{ca cb cc cd ce cf:Nat}(h:Zl X w0 w s bb lb nm wm nn wn a b c d e f ca cb cc cd ce cf)(j:Nat):w.frozen? (ad bb j)=false:=by
 obtain⟨cs,hc⟩:=h.blk
 simp[World.frozen?,hc]
theorem book_mokG{X:List (Nat × Value)}(w0:World)(s:StoreD)(bb lb nm wm B N k0 g:Nat)(ob:Obj)(a b c d e f:Option Addr)(ca cb cc cd ce cf:Nat)(hE:Zx w0)(hN:Zd w0 (.agg #[.slice a s.now.rules.length ca,.slice b s.now.zones.length cb,.slice c s.now.links.length cc]) s.now)(hW:Zd w0 (.agg #[.slice d s.was.rules.length cd,.slice e s.was.zones.length ce,.slice f s.was.links.length cf]) s.was)(ok:Jk s.now)(kS:Jk s.was)(hr:relB s.now=true)(dC:relB s.was=true)(hB:w0.heap.size<=B)(h1:bb<B)(h2:nm<B)(h3:wm<B)(h4:nm≠lb)(h5:wm≠lb)(h6:g<B)(h7:nm≠g)(h8:wm≠g)(JH:k0+N<=1000):
  MoK 100 #[.pointer (some (ad bb 0))] (momB s) (fun k W=>Zl X w0 W s bb lb nm wm (k0+k) (k0+k) a b c d e f ca cb cc cd ce cf/\W.heap[g]? =some ob) lb B N where
 enter:=fun _ _=>by kernel_rfl
 call:=fun k ev W hk hI=>(jjg w0 s bb lb nm wm (k0+k) (k0+k) a b c d e f ca cb cc cd ce cf ev W hE hN hW ok kS hr dC hI.1 (by omega) (by omega)).mono fun q W' hP=>by
  have hlt:g<W.heap.size:=(Array.getElem?_eq_some_iff.mp hI.2).1
  obtain⟨x,hx,dp⟩:=hP.grown
  refine⟨hP.ex,⟨hP.book,(dp.block g hlt ?_).trans hI.2⟩,?_⟩
  ·rcases hx with rfl|rfl
   ·simpa using Ne.symm h7
   ·simpa using Ne.symm h8
  ·rcases hx with rfl|rfl
   ·exact⟨_,h4,jjr hI.1.cn,dp⟩
   ·exact⟨_,h5,jjr hI.1.cw,dp⟩
 below:=fun k W W' hI hb=>⟨hI.1.below hb,(hb.block g (Array.getElem?_eq_some_iff.mp hI.2).1).trans hI.2⟩
 row:=fun k W W' x hI hg hx ht=>⟨hI.1.grown hg (by omega) (by omega) (by omega) (by omega) ht,(hg.block g (Array.getElem?_eq_some_iff.mp hI.2).1 (by simp;omega)).trans hI.2⟩
theorem impl_bookEntriesG{X:List (Nat × Value)}(w0:World)(s:StoreD)(bb lb nm wm n k0 g:Nat)(ob:Obj)(a b c d e f:Option Addr)(ca cb cc cd ce cf:Nat)(F:Int->Option EventD)(L:List EventD)(w:World)(hE:Zx w0)(hN:Zd w0 (.agg #[.slice a s.now.rules.length ca,.slice b s.now.zones.length cb,.slice c s.now.links.length cc]) s.now)(hW:Zd w0 (.agg #[.slice d s.was.rules.length cd,.slice e s.was.zones.length ce,.slice f s.was.links.length cf]) s.was)(ok:Jk s.now)(kS:Jk s.was)(hr:relB s.now=true)(dC:relB s.was=true)(hB:Zl X w0 w s bb lb nm wm k0 k0 a b c d e f ca cb cc cd ce cf)(h4:nm≠lb)(h5:wm≠lb)(hg:w.heap[g]? =some ob)(h7:nm≠g)(h8:wm≠g)(hM:Zm w lb n F)(hT:Tells F L)(hL:L.Pairwise fun x y=>x.id<y.id)(hl:k0+L.length<=1000):
  Cl 61 #[.pointer (some (ad bb 0))] w (EntsP (fun k W=>Zl X w0 W s bb lb nm wm (k0+k) (k0+k) a b c d e f ca cb cc cd ce cf/\W.heap[g]? =some ob) L.length lb n F (entF (momB s) L) w):=by
 have hK:=book_mokG (X:=X) w0 s bb lb nm wm w.heap.size L.length k0 g ob a b c d e f ca cb cc cd ce cf hE hN hW ok kS hr dC hB.bel.size (qbl hB.cur) hB.cn.lt hB.cw.lt h4 h5 (Array.getElem?_eq_some_iff.mp hg).1 h7 h8 hl
 have hC:=jg2 j29 F L w hK hM hT hL (by omega) ⟨hB,hg⟩
 have Q9:=hB.live
 clear hK hB hE hN hW ok kS hr dC hM hT hL hg
 unfold Cl;go_in
 go_wp2_with fail
 refine hC.mono ?_
 rintro q w2 hP
 obtain⟨v,rfl,hO⟩:=hP.ex
 go_wp2
 go_ret
 exact hP
end
section
open Go.RowKit Go.ChangeMaps Go.MapKept Go.WideMaps Go.Sort
structure BAddP(s:StoreD)(Qq:World)(x:Option Addr)(q:Ending)(w':World):Prop where
 end_:q=.returned (.tuple #[])
 ex:∃bb a1 a2 a3 a4 a5 a6 a8 a9 c1 c2 c3 c4 c5 c6 c8 c9 B U,x=some (ad bb 0)/\(∀p∈bkX s a1 a2 a3 a4 a5 a6 a8 a9 c1 c2 c3 c4 c5 c6 c8 c9,w'.cell? (ad bb p.1)=some p.2)/\w'.cell? (ad bb 7)=some (iv s.cur)/\StC w' B U (.agg (stA s a1 a2 a3 a4 a5 a6 a8 a9 c1 c2 c3 c4 c5 c6 c8 c9).toArray) s/\Qq.heap.size<=B/\U<=w'.heap.size
 bel:Bw Qq w'
end
section
open Go.RowKit Go.ChangeMaps Go.MapKept Go.WideMaps Go.Sort
def zeroS:StoreD:=⟨0,⟨[],[],[]⟩,⟨[],[],[]⟩,0,[],[]⟩
theorem RelC.nil(w:World)(B U:Nat)(h:B<=U):RelC w B U nS nS nS ⟨[],[],[]⟩:=⟨B,B,B,[],⟨by omega,by omega,by omega,h⟩,RowC.nil _ _ _ _ _,⟨rfl,fun i z hz=>by simp at hz,fun i j _ _ _ _ _ _ _ _ _ hz=>by simp at hz⟩,fun x hx=>by simp at hx,RowC.nil _ _ _ _ _,RowC.nil _ _ _ _ _⟩
theorem StC.nil(w:World)(B U:Nat)(h:B<=U):StC w B U (.agg (stA zeroS none none none none none none none none 0 0 0 0 0 0 0 0).toArray) zeroS:=⟨none,none,none,none,none,none,none,none,0,0,0,0,0,0,0,0,B,B,B,rfl,⟨by omega,by omega,by omega,h⟩,RelC.nil w B B (by omega),RelC.nil w B B (by omega),RowC.nil _ _ _ _ _,RowC.nil _ _ _ _ _⟩
structure OutP(s:StoreD)(m c:Int)(w:World)(q:Ending)(w':World):Prop where
 ex:∃a1 a2 a3 a4 a5 a6 a8 a9 c1 c2 c3 c4 c5 c6 c8 c9,q=.returned (.agg (outA s a1 a2 a3 a4 a5 a6 a8 a9 c1 c2 c3 c4 c5 c6 c8 c9 m c).toArray)/\StC w' w.heap.size w'.heap.size (.agg (stA s a1 a2 a3 a4 a5 a6 a8 a9 c1 c2 c3 c4 c5 c6 c8 c9).toArray) s
 bel:Bw w w'
end
section
open Go.RowKit Go.ChangeMaps Go.MapKept Go.WideMaps Go.Sort
theorem impl_outE(m c:Int)(hc:c≠0)(x:Option Addr)(w:World):
  Cl 27 #[.pointer x,iv m,iv c] w fun q w'=>q=.returned (.agg #[iv 0,nS,nS,nS,nS,nS,nS,iv 0,nS,nS,iv 0,iv c])/\Bw w w':=by
 have h1:(c != 0)=true:=by simpa using hc
 unfold Cl;go_in
 go_wp2
 exact bpr (v:=.agg #[iv 0,nS,nS,nS,nS,nS,nS,iv 0,nS,nS,iv 0,iv c]) (by simp[results,Tryz.results27,go_sem]) rfl ⟨rfl,qal _ _⟩
theorem impl_outK(s:StoreD)(a1 a2 a3 a4 a5 a6 a8 a9:Option Addr)(c1 c2 c3 c4 c5 c6 c8 c9:Nat)(m:Int)(bb:Nat)(w:World)(hX:∀p∈bkX s a1 a2 a3 a4 a5 a6 a8 a9 c1 c2 c3 c4 c5 c6 c8 c9,w.cell? (ad bb p.1)=some p.2)(h7:w.cell? (ad bb 7)=some (iv s.cur)):
  Cl 27 #[.pointer (some (ad bb 0)),iv m,iv 0] w fun q w'=>q=.returned (.agg (outA s a1 a2 a3 a4 a5 a6 a8 a9 c1 c2 c3 c4 c5 c6 c8 c9 m 0).toArray)/\Bw w w':=by
 have b1:=qal w (.cells #[iv 0,nS,nS,nS,nS,nS,nS,iv 0,nS,nS,iv 0,iv 0] 42)
 have k:=fun p hp=>jaa b1 (hX p hp)
 have x0:=k (0,iv s.tx) (by simp[bkX])
 have x1:=k (1,.slice a1 s.now.rules.length c1) (by simp[bkX])
 have x2:=k (2,.slice a2 s.now.zones.length c2) (by simp[bkX])
 have x3:=k (3,.slice a3 s.now.links.length c3) (by simp[bkX])
 have x4:=k (4,.slice a4 s.was.rules.length c4) (by simp[bkX])
 have x5:=k (5,.slice a5 s.was.zones.length c5) (by simp[bkX])
 have x6:=k (6,.slice a6 s.was.links.length c6) (by simp[bkX])
 have x8:=k (8,.slice a8 s.vs.length c8) (by simp[bkX])
 have x9:=k (9,.slice a9 s.ix.length c9) (by simp[bkX])
 have x7:=jaa b1 h7
 clear hX k h7 b1
 unfold Cl;go_in
 go_wp2
 exact bpr (v:=.agg (outA s a1 a2 a3 a4 a5 a6 a8 a9 c1 c2 c3 c4 c5 c6 c8 c9 m 0).toArray) (by simp[results,Tryz.results27,go_sem]) rfl ⟨rfl,qal _ _⟩
theorem store_parts{s:StoreD}(h:storeI s=true):s.vs.length<=60/\(0<=s.tx/\s.tx<=900000)/\txB s.vs s.tx=true/\(jan s.vs).length<=30:=by
 unfold storeI jov jk5 frmB txB jnr at h
 simp only[bat,decide_eq_true_eq]at h
 obtain⟨⟨⟨⟨h1,_⟩,_⟩,h2,_,h3⟩,_⟩:=h
 unfold txB
 simp only[bat,decide_eq_true_eq]
 exact⟨h2.1,by omega,h2,h3.1⟩
theorem live_ver{l:List VersionD}{id:Int}{e:EventD}(h:jch l id=some e):∃v∈l,e=v.ev:=by
 unfold jch at h
 cases hk:jci l id with
 |none=>rw[hk]at h;cases h
 |some k=>
  obtain⟨_,⟨v,hv,_⟩,_⟩:=jdc hk
  rw[hk]at h
  simp only[hv]at h
  split at h
  ·cases h
  ·cases h;exact⟨v,lmg hv,rfl⟩
theorem StC.wideS{w:World}{B U B' U':Nat}{v:Value}{s:StoreD}(h:StC w B U v s)(hB:B'<=B)(hU:U<=U'):StC w B' U' v s:=by
 obtain⟨a,b,c,d,e,f,va,ia,ca,cb,cc,cd,ce,cf,cv,ci,M1,M2,M3,h0,⟨k1,k2,k3,k4⟩,h2,h3,h4,h5⟩:=h.form
 exact⟨a,b,c,d,e,f,va,ia,ca,cb,cc,cd,ce,cf,cv,ci,M1,M2,M3,h0,⟨by omega,k2,k3,by omega⟩,h2.wide hB (nlr _),h3,h4,h5.wide (nlr _) hU⟩
