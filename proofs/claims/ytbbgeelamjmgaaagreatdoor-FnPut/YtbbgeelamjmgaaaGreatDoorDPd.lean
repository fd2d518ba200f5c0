import Derived.Test.YtbbgeelamjmgaaaGreatDoorCPd
set_option maxRecDepth 20000
set_option maxHeartbeats 0
set_option linter.unusedSimpArgs false
namespace Go.Proofs.YtbbgeelamjmgaaaGreatDoor
variable{em w w' w0:World}{a b c d e f:Option Addr}{v:Value}{B vUU base bb ca cap cb cc cd ce cf g lb n nm nn q wm wn:Nat}{t:TypeId}{s:ZP}{xs:List Value}{l:List ZN}
section
open Go.RowKit Go.ChangeMaps Go.MapKept Go.WideMaps Go.Sort
theorem vej{b o:Nat}(hm:∃es c,w.heap[lb]? =some (.map es c))(h:w.cell? (O b o)=some v):b≠lb:=λe=>by
 subst e;have⟨es,c,hm⟩:=hm;simp[World.cell?,hm]at h
theorem viG(h0:Bw em w0)(hb:Bw w0 w)(hg:w.grownBy w' (some g))(h1:em.heap.size<=g)(hl:g<w0.heap.size):∃w1:World,w1.heap.size=w0.heap.size/\Bw w1 w'/\Bw em w1/\∀k,k≠g->w1.heap[k]? =w0.heap[k]? :=by
 have s1:=hb.size;have s2:=hg.size;obtain⟨o,ho⟩:∃o,w'.heap[g]? =some o:=⟨_,Array.getElem?_eq_getElem Q⟩;have hk:∀k,k≠g->(w0.heap.setIfInBounds g o)[k]? =w0.heap[k]? :=λk hk=>by rw[Array.getElem?_setIfInBounds,if_neg (Ne.symm hk)]
 refine⟨{ w0 with heap:=w0.heap.setIfInBounds g o },M,⟨hg.os.trans hb.os,hg.tape.trans hb.tape,hg.output.trans hb.output,RO,λk h=>?_⟩,⟨h0.os,h0.tape,h0.output,by simpa using h0.size,λk h=>(hk k Q).trans (h0.block k h)⟩,hk⟩;simp at h;by_cases e:k=g
 .subst e
  rw[ho,Array.getElem?_setIfInBounds,if_pos rfl,if_pos h]
 .rw[hk k e]
  exact(hg.block k Q (by simpa using e)).trans (hb.block k h)
theorem Mk.keep{rows:List (List Value)}(h:Mk w B vUU t q v rows)(hS:∀b,B<=b->b<vUU->w'.heap[b]? =w.heap[b]?):Mk w' B vUU t q v rows:=by
 have⟨⟨hl,hv⟩,h2⟩:=h;refine⟨⟨hl,?_⟩,h2⟩;rcases hv with h|⟨g,cap,cur,rfl,hB,hg,hr⟩
 .exact .inl h
 .exact .inr ⟨g,cap,cur,rfl,hB,(hS g hB (h2 g rfl)).trans hg,hr⟩
theorem vaf.keep{va vb vc:Value}{r:ZW}(h:vaf w B vUU va vb vc r)(hS:∀b,B<=b->b<vUU->w'.heap[b]? =w.heap[b]?):vaf w' B vUU va vb vc r:=by
 have⟨vZZ,R,L,zr,⟨k1,k2,k3,k4⟩,h2,h3,h4,h5,h6⟩:=h.ex
 exact⟨vZZ,R,L,zr,⟨k1,k2,k3,k4⟩,h2.keep λb p q=>hS b p Q,⟨h3.len,λi z hz=>by
  have⟨e,c,k1,k2⟩:=h3.at_ i z hz
  exact⟨e,c,k1,k2.keep λb p q=>hS b Q Q⟩,h3.inc⟩,h4,h5.keep λb p q=>hS b Q Q,h6.keep λb p q=>hS b Q q⟩
theorem StC.parts{va ia:Option Addr}{cv ci:Nat}(h:StC w B vUU (.agg (stA s a b c d e f va ia ca cb cc cd ce cf cv ci).toArray) s):∃M1 M2 M3,(B<=M1/\M1<=M2/\M2<=M3/\M3<=vUU)/\vaf w B M1 (U a s.YT.Vv.length ca) (U b s.YT.YU.length cb) (U c s.YT.YW.length cc) s.YT/\vaf w M1 M2 (U d s.YS.Vv.length cd) (U e s.YS.YU.length ce) (U f s.YS.YW.length cf) s.YS/\Mk w M2 M3 82 8 (U va s.vs.length cv) (s.vs.map ZN.cs)/\Mk w M3 vUU 76 2 (U ia s.ix.length ci) (s.ix.map ZY.cs):=by
 have⟨a',b',c',d',e',f',YQ,YO,Rf,Rg,Rh,YC,Tg,YD,YF,YE,M1,M2,M3,hv,h1,h2,h3,h4,h5⟩:=h.form;simp only[stA,Value.agg.injEq,Array.mk.injEq,List.cons.injEq,Value.slice.injEq,true_and,and_true]at hv;obtain⟨⟨rfl,rfl⟩,⟨rfl,rfl⟩,⟨rfl,rfl⟩,⟨rfl,rfl⟩,⟨rfl,rfl⟩,⟨rfl,rfl⟩,⟨rfl,rfl⟩,rfl,rfl⟩:=hv;exact⟨M1,M2,M3,h1,h2,h3,h4,h5⟩
theorem vdA{b:Nat}{f:Int->Option Ze}(h:Zm w b n f):∃es c,w.heap[b]? =some (.map es c):=by
 have⟨D,⟨es,aZ,hb,_⟩,_⟩:=h.own;exact⟨es,aZ,hb⟩
theorem Zl.turned{X:List (Nat × Value)}(h:Zl X w0 w s bb lb nm wm nn wn a b c d e f ca cb cc cd ce cf)(h0:Bw em w0)(hg:w.grownBy w' (some g))(hw:em.heap.size<=g)(hl:g<w0.heap.size)(k:some bb≠some g)(az:∀cs,w.heap[g]? ≠some (G cs 195 (0,0))):∃w1:World,w1.heap.size=w0.heap.size/\Zl X w1 w' s bb lb nm wm nn wn a b c d e f ca cb cc cd ce cf/\Bw em w1/\∀k,k≠g->w1.heap[k]? =w0.heap[k]? :=by
 have⟨w1,k1,k2,k3,k4⟩:=viG h0 h.ZB hg hw hl;have j1:=h.bn;have j2:=h.bw;refine⟨w1,k1,⟨k2,hg.cell h.cur k,hg.cell h.live k,hg.cell h.n0 k,hg.cell h.n1 k,hg.cell h.n2 k,hg.cell h.n3 k,hg.cell h.w1 k,hg.cell h.w2 k,hg.cell h.w3 k,hg.cell h.w4 k,h.cn.grown hg Q az,h.cw.grown hg Q az,h.ne,by rw[k1];exact h.bn,by rw[k1];exact h.bw,λp hp=>hg.cell (h.more p hp) k,?_⟩,k3,k4⟩;have⟨cs,hc⟩:=h.blk;exact⟨cs,(hg.block bb (ZI h.cur) k).trans hc⟩
theorem viS{b j:Nat}(h:∃cs,w.heap[b]? =some (G cs t (0,0))):∃cs,(w.setCell (O b j) v).heap[b]? =some (G cs t (0,0)):=by
 have⟨cs,hc⟩:=h;rw[Go.Sort.setCell_eq];simp[Go.Sort.mapBlock,Array.getElem?_modify,hc];exact⟨_,rfl⟩
theorem Zl.set{X Y:List (Nat × Value)}(h:Zl X w0 w s bb lb nm wm nn wn a b c d e f ca cb cc cd ce cf)(j:Nat)(v:Value)(hj:j<10)(h7:j≠7)(hb:w0.heap.size<=bb)(hY:∀p∈Y,p=(j,v)\/p∈X/\p.1≠j):Zl Y w0 (w.setCell (O bb j) v) s bb lb nm wm nn wn a b c d e f ca cb cc cd ce cf:=by
 have hg:=jck w bb j v;have az:∀cs,w.heap[bb]? ≠some (G cs 195 (0,0)):=λcs hc=>by
  have⟨ds,hd⟩:=h.blk;rw[hd]at hc;simp at hc
 have k:∀i u,i≠j->w.cell? (O bb i)=some u->(w.setCell (O bb j) v).cell? (O bb i)=some u:=λi u hi hu=>by
  rw[ZT _ _ _ _ (by intro e;injection e with _ e;exact hi e.symm)];exact hu
 refine⟨h.ZB.setCell hb _,k 7 _ (Ne.symm h7) h.cur,k 10 _ Q h.live,k 11 _ Q h.n0,k 12 _ Q h.n1,k 13 _ Q h.n2,k 14 _ Q h.n3,k 15 _ Q h.w1,k 16 _ Q h.w2,k 17 _ Q h.w3,k 18 _ Q h.w4,h.cn.grown hg (Ne.symm h.veh) az,h.cw.grown hg (Ne.symm h.vei) az,h.ne,h.bn,h.bw,λp hp=>?_,viS h.blk⟩;rcases hY p hp with rfl|⟨h1,h2⟩
 .have⟨cs,hc⟩:=h.blk
  obtain⟨ds,hd⟩:∃u,w.cell? (O bb j)=some u:=by
   have yh:=h.live;simp only[World.cell?,hc]at yh ⊢;have hl:10<cs.size:=by
    rcases Nat.lt_or_ge 10 cs.size with h|h
    .exact h
    .simp[Array.getElem?_eq_none h]at yh
   exact⟨_,by simp[Array.getElem?_eq_getElem (show j<cs.size by omega)];rfl⟩
  exact Bf _ _ _ hd
 .exact k _ _ h2 (h.more p h1)
theorem Zl.free{X:List (Nat × Value)}(h:Zl X w0 w s bb lb nm wm nn wn a b c d e f ca cb cc cd ce cf)(j:Nat):w.frozen? (O bb j)=false:=by
 have⟨cs,hc⟩:=h.blk;simp[World.frozen?,hc]
theorem Zl.appended{X:List (Nat × Value)}{M2 M3:Nat}(h:Zl X w0 w s bb lb nm wm nn wn a b c d e f ca cb cc cd ce cf)(h0:Bw em w0)(hg:w.grownBy w' v.ownBlock)(hv:∀g,v.ownBlock=some g->M2<=g/\g<M3/\∃cs,w.heap[g]? =some (G cs 82 (0,0)))(h2:em.heap.size<=M2)(h3:M3<=w0.heap.size)(hb:w0.heap.size<=bb):∃w1:World,w1.heap.size=w0.heap.size/\Zl X w1 w' s bb lb nm wm nn wn a b c d e f ca cb cc cd ce cf/\Bw em w1/\∀k,k<M2->w1.heap[k]? =w0.heap[k]? :=by
 cases ho:v.ownBlock with
 |none=>
  rw[ho]at hg;exact⟨w0,rfl,h.below ⟨hg.os,hg.tape,hg.output,hg.size,λj hj=>hg.block j hj M⟩,h0,λ_ _=>rfl⟩
 | some g=>
  rw[ho]at hg;have⟨g1,g2,cs,hc⟩:=hv g ho
  have⟨w1,k1,k2,k3,k4⟩:=h.turned h0 hg Q Q RO (λds hd=>by
   rw[hc]at hd
   simp at hd)
  exact⟨w1,k1,k2,k3,λk hk=>k4 k Q⟩
theorem vgV{X:List (Nat × Value)}(w0:World)(s:ZP)(bb lb nm wm B N k0 g:Nat)(ob:Obj)(a b c d e f:Option Addr)(ca cb cc cd ce cf:Nat)(hE:Zx w0)(hN:Zd w0 (.agg #[U a s.YT.Vv.length ca,U b s.YT.YU.length cb,U c s.YT.YW.length cc]) s.YT)(hW:Zd w0 (.agg #[U d s.YS.Vv.length cd,U e s.YS.YU.length ce,U f s.YS.YW.length cf]) s.YS)(ok:Jk s.YT)(kS:Jk s.YS)(hr:ZZ s.YT=true)(dC:ZZ s.YS=true)(hB:w0.heap.size<=B)(h1:bb<B)(h2:nm<B)(h3:wm<B)(h4:nm≠lb)(h5:wm≠lb)(h6:g<B)(h7:nm≠g)(h8:wm≠g)(MD:k0+N<=1000):
  MoK 92 #[.pointer (some (O bb 0))] (vak s) (λk W=>Zl X w0 W s bb lb nm wm (k0+k) (k0+k) a b c d e f ca cb cc cd ce cf/\W.heap[g]? =some ob) lb B N where
 enter:=λ_ _=>RG
 call:=λk ev W hk hI=>(jjg w0 s bb lb nm wm (k0+k) (k0+k) a b c d e f ca cb cc cd ce cf ev W hE hN hW ok kS hr dC hI.1 Q Q).mono λq W' hP=>by
  have hlt:g<W.heap.size:=(Array.getElem?_eq_some_iff.mp hI.2).1;have⟨x,hx,dp⟩:=hP.grown;refine⟨hP.ex,⟨hP.book,(dp.block g hlt ?_).trans hI.2⟩,?_⟩
  .rcases hx with rfl|rfl
   .simpa using Ne.symm h7
   .simpa using Ne.symm h8
  .rcases hx with rfl|rfl
   .exact⟨_,h4,jjr hI.1.cn,dp⟩
   .exact⟨_,h5,jjr hI.1.cw,dp⟩
 below:=λk W W' hI hb=>⟨hI.1.below hb,(hb.block g (Array.getElem?_eq_some_iff.mp hI.2).1).trans hI.2⟩
 row:=λk W W' x hI hg hx ht=>⟨hI.1.grown hg Q Q Q Q ht,(hg.block g (Array.getElem?_eq_some_iff.mp hI.2).1 RO).trans hI.2⟩
theorem vhC{X:List (Nat × Value)}(w0:World)(s:ZP)(bb lb nm wm n k0 g:Nat)(ob:Obj)(a b c d e f:Option Addr)(ca cb cc cd ce cf:Nat)(F:Int->Option Ze)(L:List Ze)(w:World)(hE:Zx w0)(hN:Zd w0 (.agg #[U a s.YT.Vv.length ca,U b s.YT.YU.length cb,U c s.YT.YW.length cc]) s.YT)(hW:Zd w0 (.agg #[U d s.YS.Vv.length cd,U e s.YS.YU.length ce,U f s.YS.YW.length cf]) s.YS)(ok:Jk s.YT)(kS:Jk s.YS)(hr:ZZ s.YT=true)(dC:ZZ s.YS=true)(hB:Zl X w0 w s bb lb nm wm k0 k0 a b c d e f ca cb cc cd ce cf)(h4:nm≠lb)(h5:wm≠lb)(hg:w.heap[g]? =some ob)(h7:nm≠g)(h8:wm≠g)(hM:Zm w lb n F)(hT:vbb F L)(hL:L.Pairwise λx y=>x.id<y.id)(hl:k0+L.length<=1000):
  C 55 #[.pointer (some (O bb 0))] w (vdR (λk W=>Zl X w0 W s bb lb nm wm (k0+k) (k0+k) a b c d e f ca cb cc cd ce cf/\W.heap[g]? =some ob) L.length lb n F (BS (vak s) L) w):=by
 have hK:=vgV (X:=X) w0 s bb lb nm wm w.heap.size L.length k0 g ob a b c d e f ca cb cc cd ce cf hE hN hW ok kS hr dC hB.ZB.size (ZI hB.cur) hB.cn.lt hB.cw.lt h4 h5 (Array.getElem?_eq_some_iff.mp hg).1 h7 h8 hl;have hC:=jg2 j29 F L w hK hM hT hL Q ⟨hB,hg⟩;have Sy:=hB.live;clear hK hB hE hN hW ok kS hr dC hM hT hL hg;unfold C;go_in;go_wp2_with fail;refine hC.mono ?_;rintro q w2 hP;obtain⟨v,rfl,hO⟩:=hP.ex;go_wp2;go_ret;exact hP
end
section
open Go.RowKit Go.ChangeMaps Go.MapKept Go.WideMaps Go.Sort
def va4(s:ZP)(e:Ze)(g:Bool):ZP:=⟨s.tx+1,s.YT,s.YS,s.cur,s.vs++[Gu (s.tx+1) g e],BS (vak s) (ZJ (s.vs++[Gu (s.tx+1) g e]))⟩
structure vdO(s:ZP)(em:World)(x:Option Addr)(q:Ending)(w':World):Prop where
 end_:q=V (.tuple #[])
 ex:∃bb a1 a2 a3 a4 a5 a6 a8 a9 c1 c2 c3 c4 c5 c6 c8 c9 B vUU,x=some (O bb 0)/\(∀p∈Mq s a1 a2 a3 a4 a5 a6 a8 a9 c1 c2 c3 c4 c5 c6 c8 c9,w'.cell? (O bb p.1)=some p.2)/\w'.cell? (O bb 7)=some (J s.cur)/\StC w' B vUU (.agg (stA s a1 a2 a3 a4 a5 a6 a8 a9 c1 c2 c3 c4 c5 c6 c8 c9).toArray) s/\em.heap.size<=B/\vUU<=w'.heap.size
 ZB:Bw em w'
theorem vh1{e:TypeId}{m:Nat}(h:w.ownsRow base e q (so g m cap) n xs)(hg:w'.heap[g]? =w.heap[g]?):w'.ownsRow base e q (so g m cap) n xs:=by
 refine⟨h.1,?_⟩;rcases h.2 with⟨h1,_⟩|⟨g',c,cur,h1,h2,h3,h4⟩
 .injection h1 with h1;cases h1
 .have h5:=h1
  injection h5 with h5
  injection h5 with h5
  injection h5 with h5
  subst h5;exact .inr ⟨g,c,cur,h1,h2,hg.trans h3,h4⟩
theorem vjl{e:TypeId}{v:ZN}(h:w.ownsRow base e 8 (so g (l.length+1) cap) (l.length+1) ((l.map ZN.cs).flatten++v.cs)):w.ownsRow base e 8 (so g (l++[v]).length cap) ((l++[v]).map ZN.cs).length ((l++[v]).map ZN.cs).flatten:=by
 rw[BX,FB,MZ,List.flatten_append]
 simpa using h
theorem vhR(l:List ZN)(v:ZN):jyj (AY l) v=AY (l++[v]):=by
 have h:=jst (l++[v]) l.length (v:=v) M;rw[List.take_left' rfl,List.take_of_length_le M]at h;exact h
theorem vfL{e:TypeId}(h:w.ownsRow base e q v n xs){g:Nat}(hg:v.ownBlock=some g):∃cs,w.heap[g]? =some (G cs e (0,0)):=by
 rcases h.2 with⟨h1,_⟩|⟨g',_,cur,h1,_,h2,_⟩
 .rw[h1]at hg;cases hg
 .rw[h1]at hg
  injection hg with hg
  subst hg;exact⟨cur,h2⟩
theorem vfp(s:ZP)(ok:Zr s)(gn:Bool)(ev:Ze)(em w:World)(x:Option Addr)(hK:vbF s em w x)(CG:s.vs.length<60)(h0:0<=s.tx)(h1:s.tx<900000)(hid:1<=ev.id/\ev.id<=1000000)(hL:(ZJ (s.vs++[Gu (s.tx+1) gn ev])).length<=900):
  C 59 #[.pointer x,ev.v,.bool gn] w (vdO (va4 s ev gn) em x):=by
 obtain⟨bb,lb,n,a1,a2,a3,a4,a5,a6,a8,a9,c1,c2,c3,c4,c5,c6,c8,c9,nm,wm,k,w0,B,a,b,c,d,e,f,ca,cb,cc,cd,ce,cf,rfl,hM,hn,Ia,hk,bg,hE,hN,hW,⟨n1,n2,n3,n4,n5,n6⟩,oG,dC,hC⟩:=hK.ex;have KS:IntKind.i64.wrap (s.tx+1)=s.tx+1:=by rw[IntKind.wrap_i64];omega
 obtain⟨id,name,YZ,YV,Zz,Zu⟩:=ev;simp only[Ze.v]at *;have x0:=Ia.more (0,J s.tx) (by simp[Mq]);have f0:=Ia.free 0
 have aj:Zl (Mq ⟨s.tx+1,s.YT,s.YS,s.cur,s.vs,s.ix⟩ a1 a2 a3 a4 a5 a6 a8 a9 c1 c2 c3 c4 c5 c6 c8 c9) w0 (w.setCell (O bb 0) (J (s.tx+1))) s bb lb nm wm k k a b c d e f ca cb cc cd ce cf:=Ia.set 0 _ Q Q n5 (λp hp=>by
  simp only[Mq,List.mem_cons,List.not_mem_nil,or_false]at hp ⊢
  rcases hp with rfl|rfl|rfl|rfl|rfl|rfl|rfl|rfl|rfl<;>simp)
 have gR:Zm (w.setCell (O bb 0) (J (s.tx+1))) lb n (AY s.vs):=hM.kept (jck w bb 0 _) (by simpa using Ne.symm (vej (vdA hM) Ia.cur));have b1:=(ZU (w.setCell (O bb 0) (J (s.tx+1))).heap.size (w.setCell (O bb 0) (J (s.tx+1)))).alloc (ZD _) (G #[J id,I name,I YZ,J YV,J Zz,J Zu] 33);have aj:=aj.below b1;have gR:=gR.below b1;have E1:=Zh.new (w.setCell (O bb 0) (J (s.tx+1))) [J id,I name,I YZ,J YV,J Zz,J Zu] 33;rw[World.size_setCell]at E1;have z1:((w.setCell (O bb 0) (J (s.tx+1))).alloc (G #[J id,I name,I YZ,J YV,J Zz,J Zu] 33)).heap.size=w.heap.size+1:=M;unfold C;go_in;go_wp2_with fail;clear b1 Ia x0 f0 hM hK;generalize (w.setCell (O bb 0) (J (s.tx+1))).alloc (G #[J id,I name,I YZ,J YV,J Zz,J Zu] 33)=wB at *;have x0:=aj.more (0,J (s.tx+1)) (by simp[Mq]);have e0:=E1.c 0 rfl;have e1:=E1.c 1 rfl;have e2:=E1.c 2 rfl;have e3:=E1.c 3 rfl;have e4:=E1.c 4 rfl;have e5:=E1.c 5 rfl;go_region;have b2:=ZA wB (G #[J (s.tx+1),.bool gn,J id,I name,I YZ,J YV,J Zz,J Zu] 82);have b2:=b2.trans ((rW _).mono b2.size);have an:=aj.below b2;have gS:=gR.below b2;have V2:=(Zh.new wB [J (s.tx+1),.bool gn,J id,I name,I YZ,J YV,J Zz,J Zu] 82).below (rW _);rw[z1]at V2;have z2:((wB.alloc (G #[J (s.tx+1),.bool gn,J id,I name,I YZ,J YV,J Zz,J Zu] 82)).drew).heap.size=w.heap.size+1+1:=by
  show(wB.alloc _).heap.size=_
  simp[z1]
 clear x0 e0 e1 e2 e3 e4 e5 E1 aj gR b2;generalize (wB.alloc (G #[J (s.tx+1),.bool gn,J id,I name,I YZ,J YV,J Zz,J Zu] 82)).drew=wC at *;have FA:=jwt ⟨s.tx+1,gn,id,name,YZ,YV,Zz,Zu⟩ lb n (AY s.vs) wC.drew (gS.below (rW _)) (by unfold maxLen;omega) hid;simp only[ZN.v]at FA;have Sy:=an.live;have e0:=V2.c 0 rfl;have e1:=V2.c 1 rfl;have e2:=V2.c 2 rfl;have e3:=V2.c 3 rfl;have e4:=V2.c 4 rfl;have e5:=V2.c 5 rfl;have e6:=V2.c 6 rfl;have e7:=V2.c 7 rfl;have Vw:some bb≠some lb:=by simpa using vej (vdA gS) an.cur
 have Tv:some (w.heap.size+1)≠some lb:=by simpa using vej (vdA gS) e0
 have jI:=ZE an;have yJ:=ZE gS;have VF:=ZE V2;clear an gS V2;go_wp2_with fail;go_region_held3 (λw'=>w'.cell? (O bb 10)=some (.map (some lb))/\w'.cell? (O (w.heap.size+1) 0)=some (J (s.tx+1))/\w'.cell? (O (w.heap.size+1) 1)=some (.bool gn)/\w'.cell? (O (w.heap.size+1) 2)=some (J id)/\w'.cell? (O (w.heap.size+1) 3)=some (I name)/\w'.cell? (O (w.heap.size+1) 4)=some (I YZ)/\w'.cell? (O (w.heap.size+1) 5)=some (J YV)/\w'.cell? (O (w.heap.size+1) 6)=some (J Zz)/\w'.cell? (O (w.heap.size+1) 7)=some (J Zu)) (go_keep) ((go_at_call 86;refine FA.mono ?_;rintro q wD ⟨rfl,gT,nK⟩;have wJ:=nK.cell (a:=(O bb 10)) Sy Vw;have t0:=nK.cell (a:=(O (w.heap.size+1) 0)) e0 Tv;have t1:=nK.cell (a:=(O (w.heap.size+1) 1)) e1 Tv;have t2:=nK.cell (a:=(O (w.heap.size+1) 2)) e2 Tv;have t3:=nK.cell (a:=(O (w.heap.size+1) 3)) e3 Tv;have t4:=nK.cell (a:=(O (w.heap.size+1) 4)) e4 Tv;have t5:=nK.cell (a:=(O (w.heap.size+1) 5)) e5 Tv;have t6:=nK.cell (a:=(O (w.heap.size+1) 6)) e6 Tv;have t7:=nK.cell (a:=(O (w.heap.size+1) 7)) e7 Tv));have⟨M1,M2,M3,⟨m1,m2,m3,m4⟩,Vh,uE,Vi,_⟩:=hC.parts
 have⟨wE,ze,ax,Vd,U4⟩:=(jI.out.below (rW wC)).turned bg nK n3 Q Vw (λcs hc=>by
  have⟨es,cl,hm⟩:=vdA yJ.out;rw[show wC.drew.heap[lb]? =wC.heap[lb]? from rfl,hm]at hc
  cases hc)
 have s3:=ax.ZB.size;have zC:=nK.size;have Jh:=ZE (Vh.keep (λb h1 h2=>U4 b Q));have UW:=ZE (uE.keep (λb h1 h2=>U4 b Q));have Tp:=(Vi.keep (λb h1 h2=>U4 b Q)).below ax.ZB;have Uo:=Tp.own;rw[BX]at Uo;have hnb:some bb≠(U a8 s.vs.length c8).ownBlock:=λh=>by have:=Tp.top bb h.symm;omega
 have TX:=ZE Tp.top;have⟨i0,hi,aG,aH,aF⟩:=ji0;have x8:=ax.more (8,U a8 s.vs.length c8) (by simp[Mq]);have f8:=ax.free 8;have QG:(wD.alloc (G #[J (s.tx+1),.bool gn,J id,I name,I YZ,J YV,J Zz,J Zu] 82)).cell? (O bb 8)=some (U a8 s.vs.length c8):=YR (ZA wD _) x8;have hbD:bb<wD.heap.size:=ZI x8;have JE:M2<=wD.heap.size:=Q;have Hg:=ZE ax;have Hu:=ZE gT;have HH:=ZE (And.intro Vd (And.intro U4 ze));clear hC FA Sy e0 e1 e2 e3 e4 e5 e6 e7 jI yJ VF nK Vh uE Vi Tp ax gT wJ Vd U4 ze;go_wp2_with fail;go_region_law (refine step_append_lies _ Si (.tmp 35) (.tmp 37) 28 Si M2 82 i0 (.agg #[J 0,.bool false,J 0,Rn,Rn,J 0,J 0,J 0]) 8 80 Tryz.underlying28 hi aG aH aF rfl Q (U a8 s.vs.length c8) s.vs.length (s.vs.map ZN.cs).flatten Si (nO (w:=wD.drew) Uo _) (O wD.heap.size 0) 1 1 [J (s.tx+1),.bool gn,J id,I name,I YZ,J YV,J Zz,J Zu] Si rfl (Ka _ _ _) (by intro u hu;simp at hu;rcases hu with rfl|rfl|rfl|rfl|rfl|rfl|rfl|rfl<;>rfl) Q (by unfold maxLen;omega) Q RO _ rfl ?_;intro g1 aC wF av af bE hlt1;have r1:=af.cell (a:=(O bb 8)) (YR (ZA wD.drew _) x8) hnb;have r2:=(af.frozen_far (O bb 8) RO hnb).trans (((Z4 (ZA wD.drew _)).2 _ _ RO).trans f8))
 all_goals
  have bA:=(rW wD).trans ((ZA wD.drew (G #[J (s.tx+1),.bool gn,J id,I name,I YZ,J YV,J Zz,J Zu] 82)).mono (ZD _));have aR:=Hg.out.below bA;have Fm:=uZ Uo bA;have YN:=HH.out.2.2;have⟨wG,zG,bG,U0,Vn⟩:=aR.appended HH.out.1 af (M2:=M2) (M3:=M3) (λg hg=>⟨(World.ownsRow.lt Fm g hg).1,TX.out g hg,vfL Fm hg⟩) Q Q Q;have Vp:some lb≠(U a8 s.vs.length c8).ownBlock:=λh=>by have:=(World.ownsRow.lt Fm lb h.symm).1;omega
  have IM:=(Hu.out.below bA).kept af Vp;have cQ:g1≠bb:=by
   rcases bE with h|h
   .have:=TX.out g1 h;omega
   .simp at h;omega
  have UE:=IM.kept (jck wF bb 8 (so g1 (s.vs.length+1) aC)) RO;rw[vhR]at UE;have fV:=World.ownsRow.kept av (jck wF bb 8 (so g1 (s.vs.length+1) aC)) (.inr (by simp[Value.ownBlock];omega))
  have cp:Zl (Mq ⟨s.tx+1,s.YT,s.YS,s.cur,s.vs++[⟨s.tx+1,gn,id,name,YZ,YV,Zz,Zu⟩],s.ix⟩ a1 a2 a3 a4 a5 a6 (some (O g1 0)) a9 c1 c2 c3 c4 c5 c6 aC c9) wG (wF.setCell (O bb 8) (so g1 (s.vs.length+1) aC)) s bb lb nm wm k k a b c d e f ca cb cc cd ce cf:=bG.set 8 _ Q Q Q (λp hp=>by
   simp only[Mq,List.mem_cons,List.not_mem_nil,or_false]at hp ⊢
   rcases hp with rfl|rfl|rfl|rfl|rfl|rfl|rfl|rfl|rfl<;>simp)
  have⟨cur,Kr⟩:=vfL fV (g:=g1) rfl;have h7:nm≠g1:=λh=>by
   have⟨es,cl,hm⟩:=jjr cp.cn;rw[h,Kr]at hm;cases hm
  have h8:wm≠g1:=λh=>by
   have⟨es,cl,hm⟩:=jjr cp.cw;rw[h,Kr]at hm;cases hm
  have jy:=vhC wG s bb lb nm wm (n+1) k g1 _ a b c d e f ca cb cc cd ce cf _ (ZJ (s.vs++[⟨s.tx+1,gn,id,name,YZ,YV,Zz,Zu⟩])) _ (hE.of_below U0) (hN.below U0) (hW.below U0) ok.YT ok.YS oG dC cp n1 n2 Kr h7 h8 UE (jga _) (jhr _) (show k+(ZJ (s.vs++[Gu (s.tx+1) gn ⟨id,name,YZ,YV,Zz,Zu⟩])).length<=1000 by omega);have um:=ZE fV;have HG:=ZE (And.intro U0 (And.intro Vn zG));have zF:=cp.ZB.size;have VY:=cp.cur;have HX:=ZE (jep (vak s) (ZJ (s.vs++[⟨s.tx+1,gn,id,name,YZ,YV,Zz,Zu⟩])));clear bA aR Fm bG U0 Vn IM UE fV cp h7 h8 af av bE hlt1 r1 r2 x8 QG f8 Uo Hg Hu t0 t1 t2 t3 t4 t5 t6 t7 hi aG aH aF zG Vp hE hN hW;generalize wF.setCell (O bb 8) (so g1 (s.vs.length+1) aC)=wH at *;have LN:Hid (va4 s ⟨id,name,YZ,YV,Zz,Zu⟩ gn=⟨s.tx+1,s.YT,s.YS,s.cur,s.vs++[⟨s.tx+1,gn,id,name,YZ,YV,Zz,Zu⟩],BS (vak s) (ZJ (s.vs++[⟨s.tx+1,gn,id,name,YZ,YV,Zz,Zu⟩]))⟩):=rfl;generalize BS (vak s) (ZJ (s.vs++[⟨s.tx+1,gn,id,name,YZ,YV,Zz,Zu⟩]))=EE at *;go_wp2_with fail;refine jy.mono ?_;rintro q w9 pY;obtain⟨v9,rfl,eB⟩:=pY.ex;have⟨j,hj,fS,U6⟩:=pY.inv;obtain⟨p9,d9,rfl⟩:=vao eB;have x9:=fS.more (9,U a9 s.ix.length c9) (by simp[Mq]);have f9:=fS.free 9
  have D6:Zl (Mq ⟨s.tx+1,s.YT,s.YS,s.cur,s.vs++[⟨s.tx+1,gn,id,name,YZ,YV,Zz,Zu⟩],EE⟩ a1 a2 a3 a4 a5 a6 (some (O g1 0)) p9 c1 c2 c3 c4 c5 c6 aC d9) wG (w9.setCell (O bb 9) (U p9 EE.length d9)) s bb lb nm wm (k+j) (k+j) a b c d e f ca cb cc cd ce cf:=fS.set 9 _ Q Q (by have:=HG.out.2.2;omega) (λp hp=>by
   simp only[Mq,List.mem_cons,List.not_mem_nil,or_false]at hp ⊢
   rcases hp with rfl|rfl|rfl|rfl|rfl|rfl|rfl|rfl|rfl<;>simp)
  have zG:=HG.out.2.2;have YK:bb<wH.heap.size:=ZI VY;have UD:∀b,b<M2->(w9.setCell (O bb 9) (U p9 EE.length d9)).heap[b]? =wE.heap[b]? :=λb hb=>(heap_setCell_other w9 (O bb 9) b _ RO).trans ((fS.ZB.block b Q).trans (HG.out.2.1 b hb))
  have Ek:(w9.setCell (O bb 9) (U p9 EE.length d9)).heap[g1]? =wH.heap[g1]? :=(heap_setCell_other w9 (O bb 9) g1 _ (by simpa using cQ)).trans (U6.trans Kr.symm)
  have uB:=World.ownsRow.kept eB (jck w9 bb 9 (U p9 EE.length d9)) (by
   cases h:(U p9 EE.length d9).ownBlock with
   |none=>exact .inl rfl
   |some x=>exact .inr (by have:=(World.ownsRow.lt eB x h).1;simp;omega))
  have YJ:=pY.size;have VD:Hid (StC (w9.setCell (O bb 9) (U p9 EE.length d9)) B (w9.setCell (O bb 9) (U p9 EE.length d9)).heap.size (.agg (stA ⟨s.tx+1,s.YT,s.YS,s.cur,s.vs++[⟨s.tx+1,gn,id,name,YZ,YV,Zz,Zu⟩],EE⟩ a1 a2 a3 a4 a5 a6 (some (O g1 0)) p9 c1 c2 c3 c4 c5 c6 aC d9).toArray) ⟨s.tx+1,s.YT,s.YS,s.cur,s.vs++[⟨s.tx+1,gn,id,name,YZ,YV,Zz,Zu⟩],EE⟩):=⟨a1,a2,a3,a4,a5,a6,some (O g1 0),p9,c1,c2,c3,c4,c5,c6,aC,d9,M1,M2,wH.heap.size,rfl,⟨m1,m2,Q,by rw[World.size_setCell];omega⟩,Jh.out.keep λb _ h2=>UD b Q,UW.out.keep λb _ h2=>UD b h2,⟨vh1 (vjl um.out) Ek,λx hx=>by injection hx with hx;subst hx;exact(World.ownsRow.lt um.out g1 rfl).2⟩,⟨by rw[BX];exact uB,λx hx=>by rw[World.size_setCell];exact(World.ownsRow.lt eB x hx).2⟩⟩;have Vz:=ZE (HG.out.1.trans (D6.ZB.mono HG.out.1.size));have TU:=ZE D6;clear jy D6 uB Ek UD eB U6 pY fS um Jh UW HG;go_wp2;exact bodyPost_end (results_none Tryz.results59 _ _ _) rfl (by rw[LN.out];exact⟨rfl,⟨bb,a1,a2,a3,a4,a5,a6,some (O g1 0),p9,c1,c2,c3,c4,c5,c6,aC,d9,B,_,rfl,TU.out.more,TU.out.cur,VD.out,Q,ZD _⟩,Vz.out⟩)
end
section
open Go.RowKit Go.ChangeMaps Go.MapKept Go.WideMaps Go.Sort
theorem Zm.lookW{b:Nat}{f:Int->Option Ze}(h:Zm w b n f){id:Int}(hw:(Lit.int .i64 id).wf=true):∃e:Ze,(Instr.lookup 65 (.map (some b)) (J id) true).run Tryz.prog w=.ok (.tuple #[e.v,.bool (f id).isSome]) w/\∀x,f id=some x->e=x:=by
 have⟨D,h1,h2⟩:=h.own;have⟨v,ps,hr,hv⟩:=h1.look_ok (Maps.int_keyed vaw) vbV (juf w) (jo4 _) (Maps.keyOf_int_mk vaw hw);obtain⟨e,rfl,he⟩:=jde hv;cases hf:f id with
 |none=>exact⟨e,by rw[hr,(h2 id e).2 hf];rfl,λx hx=>by cases hx⟩
 |some y=>
  have⟨a,c⟩:=(h2 id y).1 hf;refine⟨e,by rw[hr,a];rfl,λx hx=>?_⟩;obtain rfl:=Z9 hx;rw[c]at he;have h3:=congrArg Prod.fst he;simp only[DataW.held.injEq]at h3;exact h3.symm
def va6(s:ZP):Bool:=decide (s.vs.length=60) || decide (s.tx=900000)
theorem vfr(s:ZP)(bb:Nat)(a8:Option Addr)(c8:Nat)(w:World)(x0:w.cell? (O bb 0)=some (J s.tx))(x8:w.cell? (O bb 8)=some (U a8 s.vs.length c8)):
  C 58 #[.pointer (some (O bb 0))] w λe w'=>e=V (.bool (va6 s))/\w'=w:=by
 unfold va6;generalize s.vs.length=n at *;generalize s.tx=t at *;by_cases h1:n=60
 .subst h1
  unfold C;go_in;go_wp2;go_ret;exact⟨rfl,rfl⟩
 .rw[dfe h1,Bool.false_or]
  have h2:((n:Int)==60)=false:=RO;by_cases h3:t=900000
  .subst h3
   unfold C;go_in;go_wp2;go_ret;exact⟨rfl,rfl⟩
  .rw[dfe h3]
   have h4:(t==900000)=false:=by simpa using h3
   unfold C;go_in;go_wp2;go_ret;exact⟨rfl,rfl⟩
structure vgF(s:ZP)(id:Int)(em:World)(x:Option Addr)(q:Ending)(w':World):Prop where
 ex:(AY s.vs id=none/\q=V (J 5))\/∃e,AY s.vs id=some e/\((va6 s=true/\q=V (J 7))\/(va6 s=false/\q=V (J 0)/\vdO (va4 s e true) em x (V (.tuple #[])) w'))
 ZB:Bw em w'
theorem vhE(s:ZP)(ok:Zr s)(id:Int)(em w:World)(x:Option Addr)(hK:vbF s em w x)(CG:s.vs.length<=60)(h0:0<=s.tx)(h1:s.tx<=900000)(hw:(Lit.int .i64 id).wf=true)(hid:∀e,AY s.vs id=some e->1<=e.id/\e.id<=1000000)(hL:∀v,(ZJ (s.vs++[v])).length<=900):
  C 38 #[.pointer x,J id] w (vgF s id em x):=by
 obtain⟨bb,lb,n,a1,a2,a3,a4,a5,a6,a8,a9,c1,c2,c3,c4,c5,c6,c8,c9,nm,wm,k,w0,B,a,b,c,d,e,f,ca,cb,cc,cd,ce,cf,rfl,hM,hn,Ia,hk,bg,_⟩:=hK.ex;have⟨ev,i8,jb⟩:=hM.lookW hw;have mt:=bg.trans (Ia.ZB.mono bg.size);have Sy:=Ia.live;have b1:=ZA w (G #[J ev.id,I ev.name,I ev.YZ,J ev.YV,J ev.Zz,J ev.Zu] 33);have aj:=Ia.below b1;have Tr:=Zp mt b1;have hF:=vfr s bb a8 c8 _ (aj.more (0,J s.tx) (by simp[Mq])) (aj.more (8,U a8 s.vs.length c8) (by simp[Mq]));have E1:=Zh.new w [J ev.id,I ev.name,I ev.YZ,J ev.YV,J ev.Zz,J ev.Zu] 33;have Ty:vbF s em _ _:=hK.below b1;simp only[Ze.v]at i8;cases hf:AY s.vs id with
 |none=>
  have HR:=ZE hf;rw[hf]at i8;have UJ:(Instr.lookup 65 (.map (some lb)) (J id) true).run Tryz.prog w=.ok (.tuple #[.agg #[J ev.id,I ev.name,I ev.YZ,J ev.YV,J ev.Zz,J ev.Zu],.bool false]) w:=i8;have HB:=ZE Tr;clear hf i8 hK Ty aj mt Tr hF jb Ia hM hid hL b1 E1;unfold C;go_in;go_wp2;go_ret;exact⟨.inl ⟨HR.out,rfl⟩,HB.out⟩
 |some y=>
  have HR:=ZE hf;obtain rfl:=jb y hf;have C8:=hid ev hf;rw[hf]at i8;have UJ:(Instr.lookup 65 (.map (some lb)) (J id) true).run Tryz.prog w=.ok (.tuple #[.agg #[J ev.id,I ev.name,I ev.YZ,J ev.YV,J ev.Zz,J ev.Zu],.bool true]) w:=i8;have HB:=ZE Tr;have HK:=ZE Ty;have HE:=ZE E1;clear hf i8 hK Ty aj mt Tr jb Ia hM hid b1 E1;unfold C;go_in;go_wp2_with fail;refine hF.mono ?_;rintro q w2 ⟨rfl,rfl⟩;clear hF;cases hfl:va6 s
  .have eQ:s.vs.length<60/\s.tx<900000:=by
    unfold va6 at hfl;simp only[Bool.or_eq_false_iff,decide_eq_false_iff_not]at hfl;omega
   have hA:=vfp s ok true ev em _ _ HK.out eQ.1 h0 eQ.2 C8 (hL _);simp only[Ze.v]at hA;have Us:=ZE hfl;have e0:=HE.out.c 0 rfl;have e1:=HE.out.c 1 rfl;have e2:=HE.out.c 2 rfl;have e3:=HE.out.c 3 rfl;have e4:=HE.out.c 4 rfl;have e5:=HE.out.c 5 rfl;clear hfl HK HE;go_wp2_with fail;refine hA.mono ?_;rintro q w3 hP;obtain rfl:=hP.end_;have HP:=ZE hP;clear e0 e1 e2 e3 e4 e5 hA hP;go_wp2;go_ret;exact⟨.inr ⟨ev,HR.out,.inr ⟨Us.out,rfl,HP.out⟩⟩,HP.out.ZB⟩
  .have Us:=ZE hfl
   clear hfl HK HE;go_wp2;go_ret;exact⟨.inr ⟨ev,HR.out,.inl ⟨Us.out,rfl⟩⟩,HB.out⟩
theorem vaf.nil(w:World)(B vUU:Nat)(h:B<=vUU):vaf w B vUU nS nS nS ⟨[],[],[]⟩:=⟨B,B,B,[],⟨Q,Q,Q,h⟩,Mk.nil _ _ _ _ _,⟨rfl,λi z hz=>by simp at hz,λi j _ _ _ _ _ _ _ _ _ hz=>by simp at hz⟩,λx hx=>by simp at hx,Mk.nil _ _ _ _ _,Mk.nil _ _ _ _ _⟩
theorem StC.nil(w:World)(B vUU:Nat)(h:B<=vUU):StC w B vUU (.agg (stA De none none none none none none none none 0 0 0 0 0 0 0 0).toArray) De:=⟨none,none,none,none,none,none,none,none,0,0,0,0,0,0,0,0,B,B,B,rfl,⟨Q,Q,Q,h⟩,vaf.nil w B B Q,vaf.nil w B B Q,Mk.nil _ _ _ _ _,Mk.nil _ _ _ _ _⟩
structure veJ(s:ZP)(m c:Int)(w:World)(q:Ending)(w':World):Prop where
 ex:∃a1 a2 a3 a4 a5 a6 a8 a9 c1 c2 c3 c4 c5 c6 c8 c9,q=V (.agg (Ky s a1 a2 a3 a4 a5 a6 a8 a9 c1 c2 c3 c4 c5 c6 c8 c9 m c).toArray)/\StC w' w.heap.size w'.heap.size (.agg (stA s a1 a2 a3 a4 a5 a6 a8 a9 c1 c2 c3 c4 c5 c6 c8 c9).toArray) s
 ZB:Bw w w'
end
section
open Go.RowKit Go.ChangeMaps Go.MapKept Go.WideMaps Go.Sort
theorem vhF(s:ZP)(ok:Zr s)(nm:ByteArray)(em w:World)(x:Option Addr)(hK:vbF s em w x):
  C 57 #[.pointer x,I nm] w λe w'=>e=V (.bool (jdv s nm))/\Bw w w':=by
 obtain⟨bb,lb,n,a1,a2,a3,a4,a5,a6,a8,a9,c1,c2,c3,c4,c5,c6,c8,c9,mm,wm,k,w0,B,a,b,c,d,e,f,ca,cb,cc,cd,ce,cf,rfl,hM,hn,Ia,hk,bg,hE,hN,hW,_,oG,dC,hC⟩:=hK.ex;have⟨M1,M2,M3,_,dn,aM,_,_⟩:=hC.parts;have dn:=dn.rel.below Ia.ZB;have aM:=aM.rel.below Ia.ZB;have eu:=(hE.of_below bg).of_below Ia.ZB;have x1:=Ia.more (1,U a1 s.YT.Vv.length c1) (by simp[Mq]);have x2:=Ia.more (2,U a2 s.YT.YU.length c2) (by simp[Mq]);have x3:=Ia.more (3,U a3 s.YT.YW.length c3) (by simp[Mq]);have x4:=Ia.more (4,U a4 s.YS.Vv.length c4) (by simp[Mq]);have x5:=Ia.more (5,U a5 s.YS.YU.length c5) (by simp[Mq]);have x6:=Ia.more (6,U a6 s.YS.YW.length c6) (by simp[Mq]);have x7:=Ia.cur;have j8:=jqk s.YT _ nm w eu dn ok.YT oG;have VN:=λw hE h=>jqk s.YS (.agg #[U a4 s.YS.Vv.length c4,U a5 s.YS.YU.length c5,U a6 s.YS.YW.length c6]) nm w hE h ok.YS dC
 unfold jdv;clear hK hM hn Ia hk bg hE hN hW hC oG dC ok dn;generalize inR s.YT nm=pb at *;generalize inR s.YS nm=qb at *;obtain⟨tx,YT,YS,cur,vs,ix⟩:=s;dsimp only at *;cases pb
 .unfold C;go_in
  go_wp2_with fail;refine j8.mono ?_;rintro q w1 ⟨rfl,hb1⟩;go_wp2;go_ret;exact⟨rfl,hb1⟩
 by_cases kA:cur=0
 .subst kA
  unfold C;go_in;go_wp2_with fail;refine j8.mono ?_;rintro q w1 ⟨rfl,hb1⟩;have y7:=YR hb1 x7;go_wp2;go_ret;exact⟨rfl,hb1⟩
 rw[dfe kA];have aX:(cur==0)=false:=by simp[kA]
 unfold C;go_in;go_wp2_with fail;refine j8.mono ?_;rintro q w1 ⟨rfl,hb1⟩;have y7:=YR hb1 x7;have y4:=YR hb1 x4;have y5:=YR hb1 x5;have y6:=YR hb1 x6;have jx:=eu.of_below hb1;have vJ:=aM.below hb1;clear x1 x2 x3 x4 x5 x6 x7 aM eu kA;go_wp2_with fail;refine(VN _ jx vJ).mono ?_;rintro q w2 ⟨rfl,ac⟩;cases qb
 .go_wp2
  go_ret;exact⟨rfl,(Zp hb1 ac)⟩
 .go_wp2
  go_ret;exact⟨rfl,(Zp hb1 ac)⟩
def vac(s:ZP)(e:Ze):Int:=if Lr e=true then(if jdv s e.YZ=true then(if va6 s=true then 7 else if (AY s.vs e.id).isSome=true then 0 else if (ZJ s.vs).length=30 then 7 else 0)else 5)else 1
structure vgJ(s:ZP)(e:Ze)(em:World)(x:Option Addr)(q:Ending)(w':World):Prop where
 end_:q=V (J (vac s e))
 add:vac s e=0->vdO (va4 s e false) em x (V (.tuple #[])) w'
 ZB:Bw em w'
theorem vhG(s:ZP)(ok:Zr s)(ev:Ze)(em w:World)(x:Option Addr)(hK:vbF s em w x)(CG:s.vs.length<=60)(h0:0<=s.tx)(h1:s.tx<=900000)(hw:(Lit.int .i64 ev.id).wf=true)(m1:ev.name.size<=maxLen)(m2:ev.YZ.size<=maxLen)(hid:Lr ev=true->1<=ev.id/\ev.id<=1000000)(hL:∀v,(ZJ (s.vs++[v])).length<=900):
  C 23 #[.pointer x,ev.v] w (vgJ s ev em x):=by
 have mt:Bw em w:=by
  have⟨bb,lb,n,a1,a2,a3,a4,a5,a6,a8,a9,c1,c2,c3,c4,c5,c6,c8,c9,mm,wm,k,w0,B,a,b,c,d,e,f,ca,cb,cc,cd,ce,cf,_,_,_,Ia,_,bg,_⟩:=hK.ex;exact bg.trans (Ia.ZB.mono bg.size)
 have hq1:=λW=>jjd ev W m1 m2
 have hq2:=λW x h=>vhF s ok ev.YZ em W x h
 have hA:=λW x h a b c=>vfp s ok false ev em W x h a h0 b c (hL _)
 have OQ:=λW bb a8 c8 h1 h2=>vfr s bb a8 c8 W h1 h2
 have au:∀W x,vbF s em W x->∃bb lb,x=some (O bb 0)/\W.cell? (O bb 10)=some (.map (some lb))/\(∀W',Bw W W'->(∃e:Ze,(Instr.lookup 65 (.map (some lb)) (J ev.id) true).run Tryz.prog W'=.ok (.tuple #[e.v,.bool (AY s.vs ev.id).isSome]) W')/\∀ty,(Builtin.len_ #[65] ty #[.map (some lb)]).run Tryz.prog W'=.ok (J (ZJ s.vs).length) W')/\W.cell? (O bb 0)=some (J s.tx)/\∃a8 c8,W.cell? (O bb 8)=some (U a8 s.vs.length c8):=λW x hK=>by
  obtain⟨bb,lb,n,a1,a2,a3,a4,a5,a6,a8,a9,c1,c2,c3,c4,c5,c6,c8,c9,mm,wm,k,w0,B,a,b,c,d,e,f,ca,cb,cc,cd,ce,cf,rfl,hM,hn,Ia,_⟩:=hK.ex;refine⟨bb,lb,rfl,Ia.live,λW' hb=>⟨?_,λty=>?_⟩,Ia.more (0,J s.tx) (by simp[Mq]),a8,c8,Ia.more (8,U a8 s.vs.length c8) (by simp[Mq])⟩
  .have⟨e,he,_⟩:=(hM.below hb).lookW hw
   exact⟨e,he⟩
  .have⟨D,d1,d2⟩:=(hM.below hb).own
   rw[<- jia d1 d2 (jga s.vs) (jhr s.vs.length)];exact d1.len vbV ty
 obtain⟨id,name,YZ,YV,Zz,Zu⟩:=ev;simp only[Ze.v]at *;have b0:=ZA w (G #[J id,I name,I YZ,J YV,J Zz,J Zu] 33);have E0:=Zh.new w [J id,I name,I YZ,J YV,J Zz,J Zu] 33;have Um:=hK.below b0;have bg:=Zp mt b0;have⟨we,Vs⟩:=ZL (w.alloc (G #[J id,I name,I YZ,J YV,J Zz,J Zu] 33));rw[Vs]at E0 Um bg;obtain⟨bb,lb,rfl,_⟩:=au _ _ Um;have e0:=E0.c 0 rfl;have e1:=E0.c 1 rfl;have e2:=E0.c 2 rfl;have e3:=E0.c 3 rfl;have e4:=E0.c 4 rfl;have e5:=E0.c 5 rfl;clear hK b0 mt;unfold C;go_in;go_wp2_with fail;clear Vs;refine(hq1 _).mono ?_;rintro q w1 ⟨rfl,hb1⟩;cases he:Lr ⟨id,name,YZ,YV,Zz,Zu⟩
 .have HC:Hid (vac s ⟨id,name,YZ,YV,Zz,Zu⟩=1):=by simp[Hid,vac,he]
  have HB:=ZE (Zp bg hb1);clear he au hA OQ hq1 hq2 hid;go_wp2;go_ret;exact⟨(by rw[HC.out];rfl),λh=>by rw[HC.out]at h;omega,HB.out⟩
 have hid:=hid he;have E1:=E0.below hb1;have Ty:=Um.below hb1;have Tz:=Zp bg hb1;clear e0 e1 e2 e3 e4 e5 E0 Um bg hb1 hq1;have e2:=E1.c 2 rfl;go_wp2_with fail;refine(hq2 _ _ Ty).mono ?_;rintro q w2 ⟨rfl,ac⟩;cases hz:jdv s YZ
 .have HC:Hid (vac s ⟨id,name,YZ,YV,Zz,Zu⟩=5):=by simp[Hid,vac,he,hz]
  have HB:=ZE (Zp Tz ac);clear he hz au hA OQ hq2;go_wp2;go_ret;exact⟨(by rw[HC.out];rfl),λh=>by rw[HC.out]at h;omega,HB.out⟩
 have E2:=E1.below ac;have UC:=Ty.below ac;have U1:=Zp Tz ac;clear e2 E1 Ty Tz ac hq2;have⟨_,lb,Tm,Sy,i8,_⟩:=au _ _ UC;injection Tm with Tm
 injection Tm with Tm
 subst Tm;have e0:=E2.c 0 rfl;have⟨VK,vd⟩:=(i8 _ (rW w2)).1;have b2:=ZA w2 (G #[J 0,Rn,Rn,J 0,J 0,J 0] 33);have Ul:=b2.trans ((rW _).mono b2.size);have⟨VL,fG⟩:=(i8 _ Ul).1;have y10:=YR b2 Sy;have y0:=YR b2 e0;have hT:∀ty,(Builtin.len_ #[65] ty #[.map (some lb)]).run Tryz.prog w2=.ok (J (ZJ s.vs).length) w2:=(i8 _ (ZU _ _)).2;have bz:=rW w2;generalize hfs:(AY s.vs id).isSome=fs at *;go_upto_region 5 with fail
 go_cut [6]from 5 to 24 (λs6 wx=>s6=.bool fs/\Hid (Bw w2 wx))
 case first=>
  go_region
  all_goals (go_wp2;go_meet;exact⟨rfl,by first|exact bz.alloc bz.size _|exact bst _ _ _ (ZD _) (bz.alloc bz.size _)|exact Ul|exact Ul⟩)
 case rest=>
  obtain⟨rfl,ar⟩:=hcut;have⟨w3,gm⟩:=wL wc;subst gm;have ar:=ar.out;have Un:=UC.below ar;have E3:=E2.below ar;have U2:=Zp U1 ar;clear vd fG b2 Ul y10 y0 hT bz Sy e0 i8 ar U1 E2 UC VK VL;have⟨_,YP,Tm,z10,U5,z0,a8,c8,z8⟩:=au _ _ Un;injection Tm with Tm
  injection Tm with Tm
  subst Tm;have eN:=OQ _ bb a8 c8 z0 z8;have j5:=(U5 _ (ZU _ _)).2;clear au OQ U5 z0 z8;go_wp2_with fail;refine eN.mono ?_;rintro q w4 ⟨rfl,yj⟩;have yj:=yj.symm;subst yj;clear eN;cases hfl:va6 s
  .have eQ:s.vs.length<60/\s.tx<900000:=by
    unfold va6 at hfl;simp only[Bool.or_eq_false_iff,decide_eq_false_iff_not]at hfl;omega
   have UA:=hA _ _ Un eQ.1 eQ.2 hid;have e0:=E3.c 0 rfl;have e1:=E3.c 1 rfl;have e2:=E3.c 2 rfl;have e3:=E3.c 3 rfl;have e4:=E3.c 4 rfl;have e5:=E3.c 5 rfl;clear hA Un E3 eQ;have HB:=ZE U2;by_cases lm:fs=false/\(ZJ s.vs).length=30
   .obtain⟨rfl,lm⟩:=lm
    have HC:Hid (vac s ⟨id,name,YZ,YV,Zz,Zu⟩=7):=by simp[Hid,vac,he,hz,hfl,hfs,lm]
    have J4:(((ZJ s.vs).length:Int)==30)=true:=RO;clear hfs he hz e0 e1 e2 e3 e4 e5 UA;go_wp2;go_ret;exact⟨(by rw[HC.out];rfl),λh=>by rw[HC.out]at h;omega,HB.out⟩
   have HC:Hid (vac s ⟨id,name,YZ,YV,Zz,Zu⟩=0):=by
    cases fs<;>simp_all [Hid,vac]
   have J4:fs=false->(((ZJ s.vs).length:Int)==30)=false:=λh=>by
    have:¬_=_:=λx=>lm ⟨h,x⟩
    simp;omega
   clear hfs he hz lm;cases fs
   all_goals
    first|have J4:=J4 rfl|clear J4
    go_wp2_with fail;refine UA.mono ?_;rintro q w5 hP;obtain rfl:=hP.end_;have HP:=ZE hP;clear e0 e1 e2 e3 e4 e5 UA hP;go_wp2;go_ret;exact⟨(by rw[HC.out];rfl),λ_=>HP.out,HP.out.ZB⟩
  .have HC:Hid (vac s ⟨id,name,YZ,YV,Zz,Zu⟩=7):=by simp[Hid,vac,he,hz,hfl]
   clear hfs he hz;clear hA Un E3;have HB:=ZE U2;go_wp2;go_ret;exact⟨(by rw[HC.out];rfl),λh=>by rw[HC.out]at h;omega,HB.out⟩
end
section
open Go.RowKit Go.ChangeMaps Go.MapKept Go.WideMaps Go.Sort
theorem vfs(m c:Int)(hc:c≠0)(x:Option Addr)(w:World):
  C 22 #[.pointer x,J m,J c] w λq w'=>q=V (.agg #[J 0,nS,nS,nS,nS,nS,nS,J 0,nS,nS,J 0,J c])/\Bw w w':=by
 have h1:(c != 0)=true:=by simpa using hc
 unfold C;go_in;go_wp2;exact ZM (v:=.agg #[J 0,nS,nS,nS,nS,nS,nS,J 0,nS,nS,J 0,J c]) (by simp[results,Tryz.results22,go_sem]) rfl ⟨rfl,ZA _ _⟩
theorem vft(s:ZP)(a1 a2 a3 a4 a5 a6 a8 a9:Option Addr)(c1 c2 c3 c4 c5 c6 c8 c9:Nat)(m:Int)(bb:Nat)(w:World)(hX:∀p∈Mq s a1 a2 a3 a4 a5 a6 a8 a9 c1 c2 c3 c4 c5 c6 c8 c9,w.cell? (O bb p.1)=some p.2)(h7:w.cell? (O bb 7)=some (J s.cur)):
  C 22 #[.pointer (some (O bb 0)),J m,J 0] w λq w'=>q=V (.agg (Ky s a1 a2 a3 a4 a5 a6 a8 a9 c1 c2 c3 c4 c5 c6 c8 c9 m 0).toArray)/\Bw w w':=by
 have b1:=ZA w (G #[J 0,nS,nS,nS,nS,nS,nS,J 0,nS,nS,J 0,J 0] 37);have k:=λp hp=>YR b1 (hX p hp)
 have x0:=k (0,J s.tx) (by simp[Mq]);have x1:=k (1,U a1 s.YT.Vv.length c1) (by simp[Mq]);have x2:=k (2,U a2 s.YT.YU.length c2) (by simp[Mq]);have x3:=k (3,U a3 s.YT.YW.length c3) (by simp[Mq]);have x4:=k (4,U a4 s.YS.Vv.length c4) (by simp[Mq]);have x5:=k (5,U a5 s.YS.YU.length c5) (by simp[Mq]);have x6:=k (6,U a6 s.YS.YW.length c6) (by simp[Mq]);have x8:=k (8,U a8 s.vs.length c8) (by simp[Mq]);have x9:=k (9,U a9 s.ix.length c9) (by simp[Mq]);have x7:=YR b1 h7;clear hX k h7 b1;unfold C;go_in;go_wp2;exact ZM (v:=.agg (Ky s a1 a2 a3 a4 a5 a6 a8 a9 c1 c2 c3 c4 c5 c6 c8 c9 m 0).toArray) (by simp[results,Tryz.results22,go_sem]) rfl ⟨rfl,ZA _ _⟩
def vaB(s:ZP)(id:Int):ZP × Int:=if wZ s=true then(match AY s.vs id with
 |none=>(De,5)
 |some e=>if va6 s=true then(De,7)else(va4 s e true,0))else(De,1)
theorem vde(h:wZ s=true):s.vs.length<=60/\(0<=s.tx/\s.tx<=900000)/\txB s.vs s.tx=true/\(ZJ s.vs).length<=30:=by
 unfold wZ jov jk5 vav txB jnr at h;simp only[vB,decide_eq_true_eq]at h;have⟨⟨⟨⟨h1,_⟩,_⟩,h2,_,h3⟩,_⟩:=h;unfold txB;simp only[vB,decide_eq_true_eq];exact⟨h2.1,Q,h2,h3.1⟩
theorem vfG(l:List ZN)(v:ZN)(h:l.length<=800):(ZJ (l++[v])).length<=900:=by
 have:=jwf (l++[v]) (l++[v]).length;unfold ZJ;simp at this ⊢;omega
theorem vhS{id:Int}{e:Ze}(h:AY l id=some e):∃v∈l,e=v.ev:=by
 unfold AY at h;cases hk:jci l id with
 |none=>rw[hk]at h;cases h
 |some k=>
  have⟨_,⟨v,hv,_⟩,_⟩:=jdc hk;rw[hk]at h;simp only[hv]at h;split at h
  .cases h
  .cases h;exact⟨v,ui hv,rfl⟩
theorem StC.vb4{B' U':Nat}(h:StC w B vUU v s)(hB:B'<=B)(hU:vUU<=U'):StC w B' U' v s:=by
 have⟨a,b,c,d,e,f,va,ia,ca,cb,cc,cd,ce,cf,cv,ci,M1,M2,M3,h0,⟨k1,k2,k3,k4⟩,h2,h3,h4,h5⟩:=h.form;exact⟨a,b,c,d,e,f,va,ia,ca,cb,cc,cd,ce,cf,cv,ci,M1,M2,M3,h0,⟨Q,k2,k3,Q⟩,h2.wide hB (ZD _),h3,h4,h5.wide (ZD _) hU⟩
theorem vhz(s:ZP)(v:Value)(id:Int)(w:World)(hE:Zx w)(hv:Jd w v s)(ok:Zr s)(hw:(Lit.int .i64 id).wf=true):
  C 14 #[v,J id] w (veJ (vaB s id).1 0 (vaB s id).2 w):=by
 have dQ:=hv;obtain⟨a,b,c,d,e,f,va,ia,ca,cb,cc,cd,ce,cf,cv,ci,rfl,_,_,_,_,_,_⟩:=hv.form;have⟨w0,KR,ag,A0,R0,z0⟩:=vdh w (stA s a b c d e f va ia ca cb cc cd ce cf cv ci);have hO:=vea j29 s _ _ (hE.of_below ag) (dQ.below ag) ok;have⟨x0,x1,x2,x3,x4,x5,x6,x7,x8,x9⟩:=A0.ZS;have lQ:=ZE R0;have Gi:=ZE ag;have vy:=ZE z0;clear hv dQ hE A0 R0 ag z0;cases hs:wZ s
 case false=>
  have HD:Hid (vaB s id=(De,1)):=by simp[Hid,vaB,hs]
  rw[HD.out];unfold C;go_in;go_wp2_with fail;refine hO.mono ?_;rintro q w3 hP;obtain⟨xb,rfl,_⟩:=hP.ex;rw[hs];have ar:=hP.ZB;have l3:=ar.size;rw[vy.out]at l3;have ax:=Zp Gi.out ar;have R3:=lQ.out.below ar;have xO:=StC.nil w3 (w.heap.size+1+1) w3.heap.size l3;have⟨r0,r1,r2,r3,r4,r5,r6,r7,r8,r9,lw,mv⟩:=R3.Nc;have⟨f0,f1,f2,f3,f4,f5,f6,f7,f8,f9,gx,l7⟩:=R3.Od;have⟨W,hW,⟨t0,t1,t2,t3,t4,t5,t6,t7,t8,t9,wJ,cq⟩,T3,Fa,J8⟩:=R3.vaC 1;have yA:=ZE (J8 _ _ Q ax);have ED:=ZE (((xO.touch T3 (λb h1 _ h2=>Q)).vb4 (show w.heap.size<=_ by omega) (Nat.le_of_eq Fa.symm)));clear J8 R3 T3 Fa xO ax hO hP ar;go_wp2;exact ZM (v:=.agg #[J 0,nS,nS,nS,nS,nS,nS,J 0,nS,nS,J 0,J 1]) (by simp[results,Tryz.results14,go_sem,t0,t1,t2,t3,t4,t5,t6,t7,t8,t9,wJ,cq]) rfl ⟨⟨none,none,none,none,none,none,none,none,0,0,0,0,0,0,0,0,rfl,ED.out⟩,yA.out⟩
 case true=>
  have⟨p1,⟨p2,p3⟩,p4,p5⟩:=vde hs
  have HD:Hid (vaB s id=(match AY s.vs id with
   |none=>(De,5)
   |some e=>if va6 s=true then(De,7)else(va4 s e true,0))):=by simp[Hid,vaB,hs]
  have U3:∀e,AY s.vs id=some e->1<=e.id/\e.id<=1000000:=λe he=>by
   obtain⟨v,hv,rfl⟩:=vhS he;exact j23 p4 v hv
  have Tu:=λW x hK=>vhE s ok id w0 W x hK p1 p2 p3 hw U3 (λv=>vfG s.vs v Q)
  have sj:=λc (hc:c≠0) x W=>vfs 0 c hc x W
  clear U3;unfold C;go_in;go_wp2_with fail;refine hO.mono ?_;rintro q w1 hP;obtain⟨xb,rfl,hK⟩:=hP.ex;have hK:=hK hs;rw[hs];clear hO hP hs;go_wp2_with fail;refine(Tu _ _ hK).mono ?_;rintro q w2 iB;have ac:=iB.ZB;have l2:=ac.size;rw[vy.out]at l2;rcases iB.ex with⟨hf,rfl⟩|⟨ev,hf,⟨hfl,rfl⟩|⟨hfl,rfl,hA⟩⟩
  .have Hi:Hid (vaB s id=(De,5)):=by simp only[Hid];rw[HD.out,hf]
   clear HD Tu iB hK hf p1 p2 p3 p4 p5 hw;go_wp2_with fail;refine(sj 5 Q _ _).mono ?_;rintro q w3 ⟨rfl,ar⟩;have mx:=Zp ac ar;have l3:=mx.size;rw[vy.out]at l3;have ax:=Zp Gi.out mx;have R3:=lQ.out.below mx;have xO:=StC.nil w3 (w.heap.size+1+1) w3.heap.size l3;have⟨r0,r1,r2,r3,r4,r5,r6,r7,r8,r9,lw,mv⟩:=R3.Nc;have⟨f0,f1,f2,f3,f4,f5,f6,f7,f8,f9,gx,l7⟩:=R3.Od;have⟨W,hW,⟨t0,t1,t2,t3,t4,t5,t6,t7,t8,t9,wJ,cq⟩,T3,Fa,J8⟩:=R3.vaC 5;have yA:=ZE (J8 _ _ Q ax);have ED:=ZE (((xO.touch T3 (λb h1 _ h2=>Q)).vb4 (show w.heap.size<=_ by omega) (Nat.le_of_eq Fa.symm)));clear J8 R3 T3 Fa xO ax ar mx ac;go_wp2;exact ZM (v:=.agg #[J 0,nS,nS,nS,nS,nS,nS,J 0,nS,nS,J 0,J 5]) (by simp[results,Tryz.results14,go_sem,t0,t1,t2,t3,t4,t5,t6,t7,t8,t9,wJ,cq]) rfl (by rw[Hi.out];exact⟨⟨none,none,none,none,none,none,none,none,0,0,0,0,0,0,0,0,rfl,ED.out⟩,yA.out⟩)
  .have Hi:Hid (vaB s id=(De,7)):=by simp only[Hid];rw[HD.out,hf];simp[hfl]
   clear HD Tu iB hK hf hfl p1 p2 p3 p4 p5 hw;go_wp2_with fail;refine(sj 7 Q _ _).mono ?_;rintro q w3 ⟨rfl,ar⟩;have mx:=Zp ac ar;have l3:=mx.size;rw[vy.out]at l3;have ax:=Zp Gi.out mx;have R3:=lQ.out.below mx;have xO:=StC.nil w3 (w.heap.size+1+1) w3.heap.size l3;have⟨r0,r1,r2,r3,r4,r5,r6,r7,r8,r9,lw,mv⟩:=R3.Nc;have⟨f0,f1,f2,f3,f4,f5,f6,f7,f8,f9,gx,l7⟩:=R3.Od;have⟨W,hW,⟨t0,t1,t2,t3,t4,t5,t6,t7,t8,t9,wJ,cq⟩,T3,Fa,J8⟩:=R3.vaC 7;have yA:=ZE (J8 _ _ Q ax);have ED:=ZE (((xO.touch T3 (λb h1 _ h2=>Q)).vb4 (show w.heap.size<=_ by omega) (Nat.le_of_eq Fa.symm)));clear J8 R3 T3 Fa xO ax ar mx ac;go_wp2;exact ZM (v:=.agg #[J 0,nS,nS,nS,nS,nS,nS,J 0,nS,nS,J 0,J 7]) (by simp[results,Tryz.results14,go_sem,t0,t1,t2,t3,t4,t5,t6,t7,t8,t9,wJ,cq]) rfl (by rw[Hi.out];exact⟨⟨none,none,none,none,none,none,none,none,0,0,0,0,0,0,0,0,rfl,ED.out⟩,yA.out⟩)
  .have Hi:Hid (vaB s id=(va4 s ev true,0)):=by simp only[Hid];rw[HD.out,hf];simp[hfl]
   obtain⟨bb,a1,a2,a3,a4,a5,a6,a8,a9,c1,c2,c3,c4,c5,c6,c8,c9,B,vUU,rfl,hX,h7,OU,dr,UG⟩:=hA.ex;rw[vy.out]at dr;generalize va4 s ev true=D at *;have UF:=vft D a1 a2 a3 a4 a5 a6 a8 a9 c1 c2 c3 c4 c5 c6 c8 c9 0 bb w2 hX h7;have Tw:=ZE OU;clear HD Tu iB hK hf hfl p1 p2 p3 p4 p5 hw hA hX h7 OU sj;go_wp2_with fail;refine UF.mono ?_;rintro q w3 ⟨rfl,ar⟩;have mx:=Zp ac ar;have l3:=mx.size;rw[vy.out]at l3;have ax:=Zp Gi.out mx;have R3:=lQ.out.below mx;have xO:=(Tw.out.below ar).vb4 dr (Nat.le_trans UG ar.size);have⟨r0,r1,r2,r3,r4,r5,r6,r7,r8,r9,lw,mv⟩:=R3.Nc;have⟨f0,f1,f2,f3,f4,f5,f6,f7,f8,f9,gx,l7⟩:=R3.Od;have⟨W,hW,⟨t0,t1,t2,t3,t4,t5,t6,t7,t8,t9,wJ,cq⟩,T3,Fa,J8⟩:=R3.fin (J D.tx) (U a1 D.YT.Vv.length c1) (U a2 D.YT.YU.length c2) (U a3 D.YT.YW.length c3) (U a4 D.YS.Vv.length c4) (U a5 D.YS.YU.length c5) (U a6 D.YS.YW.length c6) (J D.cur) (U a8 D.vs.length c8) (U a9 D.ix.length c9) (J 0) (J 0);have yA:=ZE (J8 _ _ Q ax);have ED:=ZE (((xO.touch T3 (λb h1 _ h2=>Q)).vb4 (show w.heap.size<=_ by omega) (Nat.le_of_eq Fa.symm)));clear J8 R3 T3 Fa xO ax ar mx ac;go_wp2;exact ZM (v:=.agg #[J D.tx,U a1 D.YT.Vv.length c1,U a2 D.YT.YU.length c2,U a3 D.YT.YW.length c3,U a4 D.YS.Vv.length c4,U a5 D.YS.YU.length c5,U a6 D.YS.YW.length c6,J D.cur,U a8 D.vs.length c8,U a9 D.ix.length c9,J 0,J 0]) (by simp[results,Tryz.results14,go_sem,t0,t1,t2,t3,t4,t5,t6,t7,t8,t9,wJ,cq]) rfl (by rw[Hi.out];exact⟨⟨a1,a2,a3,a4,a5,a6,a8,a9,c1,c2,c3,c4,c5,c6,c8,c9,rfl,ED.out⟩,yA.out⟩)
end
section
open Go.RowKit Go.ChangeMaps Go.MapKept Go.WideMaps Go.Sort
def vaU(s:ZP)(e:Ze):ZP × Int:=if wZ s=true then(if vac s e=0 then va4 s e false else De,vac s e)else(De,1)
theorem vhh{e:Ze}(h:Lr e=true):1<=e.id/\e.id<=1000000:=by
 unfold Lr ZX at h;simp only[vB,decide_eq_true_eq]at h;exact h.1
theorem vhA(s:ZP)(v:Value)(ev:Ze)(w:World)(hE:Zx w)(hv:Jd w v s)(ok:Zr s)(hw:(Lit.int .i64 ev.id).wf=true)(m1:ev.name.size<=maxLen)(m2:ev.YZ.size<=maxLen):
  C 5 #[v,ev.v] w (veJ (vaU s ev).1 0 (vaU s ev).2 w):=by
 have dQ:=hv;obtain⟨a,b,c,d,e,f,va,ia,ca,cb,cc,cd,ce,cf,cv,ci,rfl,_,_,_,_,_,_⟩:=hv.form;have⟨w0,KR,ag,A0,E0,R0,z0⟩:=veA w (stA s a b c d e f va ia ca cb cc cd ce cf cv ci) ev.cs;have hO:=vea j29 s _ _ (hE.of_below ag) (dQ.below ag) ok;have yb:=λh W x hK=>vhG s ok ev w0 W x hK (vde h).1 (vde h).2.1.1 (vde h).2.1.2 hw m1 m2 vhh (λv=>vfG s.vs v (by have:=(vde h).1;omega))
 obtain⟨id,name,YZ,YV,Zz,Zu⟩:=ev;simp only[Ze.v,Ze.cs]at *;have⟨x0,x1,x2,x3,x4,x5,x6,x7,x8,x9⟩:=A0.ZS;have lQ:=ZE R0;have Gi:=ZE ag;have vy:=ZE z0;have UT:=ZE E0;clear hv dQ hE A0 R0 ag z0 E0;cases hs:wZ s
 case false=>
  have HD:Hid (vaU s ⟨id,name,YZ,YV,Zz,Zu⟩=(De,1)):=by simp[Hid,vaU,hs]
  rw[HD.out];clear yb;unfold C;go_in;go_wp2_with fail;clear KR x0 x1 x2 x3 x4 x5 x6 x7 x8 x9;refine hO.mono ?_;rintro q w3 hP;obtain⟨xb,rfl,_⟩:=hP.ex;rw[hs];have ar:=hP.ZB;have l3:=ar.size;rw[vy.out]at l3;have ax:=Zp Gi.out ar;have R3:=lQ.out.below ar;have xO:=StC.nil w3 (w.heap.size+1+1+1) w3.heap.size l3;have⟨r0,r1,r2,r3,r4,r5,r6,r7,r8,r9,lw,mv⟩:=R3.Nc;have⟨f0,f1,f2,f3,f4,f5,f6,f7,f8,f9,gx,l7⟩:=R3.Od;have⟨W,hW,⟨t0,t1,t2,t3,t4,t5,t6,t7,t8,t9,wJ,cq⟩,T3,Fa,J8⟩:=R3.vaC 1;have yA:=ZE (J8 _ _ Q ax);have ED:=ZE (((xO.touch T3 (λb h1 _ h2=>Q)).vb4 (show w.heap.size<=_ by omega) (Nat.le_of_eq Fa.symm)));clear J8 R3 T3 Fa xO ax hO hP ar;go_wp2;exact ZM (v:=.agg #[J 0,nS,nS,nS,nS,nS,nS,J 0,nS,nS,J 0,J 1]) (by simp[results,Tryz.results5,go_sem,t0,t1,t2,t3,t4,t5,t6,t7,t8,t9,wJ,cq]) rfl ⟨⟨none,none,none,none,none,none,none,none,0,0,0,0,0,0,0,0,rfl,ED.out⟩,yA.out⟩
 case true=>
  have yb:=yb hs;have HD:Hid (vaU s ⟨id,name,YZ,YV,Zz,Zu⟩=(if vac s ⟨id,name,YZ,YV,Zz,Zu⟩=0 then va4 s ⟨id,name,YZ,YV,Zz,Zu⟩ false else De,vac s ⟨id,name,YZ,YV,Zz,Zu⟩)):=by simp[Hid,vaU,hs]
  have sj:=λc (hc:c≠0) x W=>vfs 0 c hc x W
  unfold C;go_in;go_wp2_with fail;clear KR x0 x1 x2 x3 x4 x5 x6 x7 x8 x9;refine hO.mono ?_;rintro q w1 hP;obtain⟨xb,rfl,hK⟩:=hP.ex;have hK:=hK hs;have E1:=UT.out.below hP.ZB;have e0:=E1.c 0 rfl;have e1:=E1.c 1 rfl;have e2:=E1.c 2 rfl;have e3:=E1.c 3 rfl;have e4:=E1.c 4 rfl;have e5:=E1.c 5 rfl;rw[hs];clear hO hP hs UT E1;go_wp2_with fail;clear e0 e1 e2 e3 e4 e5;refine(yb _ _ hK).mono ?_;rintro q w2 iB;obtain rfl:=iB.end_;have ac:=iB.ZB;have l2:=ac.size;rw[vy.out]at l2;by_cases hc:vac s ⟨id,name,YZ,YV,Zz,Zu⟩=0
  .have Hi:Hid (vaU s ⟨id,name,YZ,YV,Zz,Zu⟩=(va4 s ⟨id,name,YZ,YV,Zz,Zu⟩ false,0)):=by simp only[Hid];rw[HD.out,hc];rfl
   obtain⟨bb,a1,a2,a3,a4,a5,a6,a8,a9,c1,c2,c3,c4,c5,c6,c8,c9,B,vUU,rfl,hX,h7,OU,dr,UG⟩:=(iB.add hc).ex;rw[vy.out]at dr;rw[hc];generalize va4 s ⟨id,name,YZ,YV,Zz,Zu⟩ false=D at *;have UF:=vft D a1 a2 a3 a4 a5 a6 a8 a9 c1 c2 c3 c4 c5 c6 c8 c9 0 bb w2 hX h7;have Tw:=ZE OU;clear HD yb iB hK hw hX h7 OU sj hc;go_wp2_with fail;refine UF.mono ?_;rintro q w3 ⟨rfl,ar⟩;have mx:=Zp ac ar;have l3:=mx.size;rw[vy.out]at l3;have ax:=Zp Gi.out mx;have R3:=lQ.out.below mx;have xO:=(Tw.out.below ar).vb4 dr (Nat.le_trans UG ar.size);have⟨r0,r1,r2,r3,r4,r5,r6,r7,r8,r9,lw,mv⟩:=R3.Nc;have⟨f0,f1,f2,f3,f4,f5,f6,f7,f8,f9,gx,l7⟩:=R3.Od;have⟨W,hW,⟨t0,t1,t2,t3,t4,t5,t6,t7,t8,t9,wJ,cq⟩,T3,Fa,J8⟩:=R3.fin (J D.tx) (U a1 D.YT.Vv.length c1) (U a2 D.YT.YU.length c2) (U a3 D.YT.YW.length c3) (U a4 D.YS.Vv.length c4) (U a5 D.YS.YU.length c5) (U a6 D.YS.YW.length c6) (J D.cur) (U a8 D.vs.length c8) (U a9 D.ix.length c9) (J 0) (J 0);have yA:=ZE (J8 _ _ Q ax);have ED:=ZE (((xO.touch T3 (λb h1 _ h2=>Q)).vb4 (show w.heap.size<=_ by omega) (Nat.le_of_eq Fa.symm)));clear J8 R3 T3 Fa xO ax ar mx ac;go_wp2;exact ZM (v:=.agg #[J D.tx,U a1 D.YT.Vv.length c1,U a2 D.YT.YU.length c2,U a3 D.YT.YW.length c3,U a4 D.YS.Vv.length c4,U a5 D.YS.YU.length c5,U a6 D.YS.YW.length c6,J D.cur,U a8 D.vs.length c8,U a9 D.ix.length c9,J 0,J 0]) (by simp[results,Tryz.results5,go_sem,t0,t1,t2,t3,t4,t5,t6,t7,t8,t9,wJ,cq]) rfl (by rw[Hi.out];exact⟨⟨a1,a2,a3,a4,a5,a6,a8,a9,c1,c2,c3,c4,c5,c6,c8,c9,rfl,ED.out⟩,yA.out⟩)
  .have Hi:Hid (vaU s ⟨id,name,YZ,YV,Zz,Zu⟩=(De,vac s ⟨id,name,YZ,YV,Zz,Zu⟩)):=by simp only[Hid];rw[HD.out,if_neg hc]
   clear HD yb iB hK hw;generalize vac s ⟨id,name,YZ,YV,Zz,Zu⟩=pc at *;go_wp2_with fail;refine(sj pc hc _ _).mono ?_;rintro q w3 ⟨rfl,ar⟩;have mx:=Zp ac ar;have l3:=mx.size;rw[vy.out]at l3;have ax:=Zp Gi.out mx;have R3:=lQ.out.below mx;have xO:=StC.nil w3 (w.heap.size+1+1+1) w3.heap.size l3;have⟨r0,r1,r2,r3,r4,r5,r6,r7,r8,r9,lw,mv⟩:=R3.Nc;have⟨f0,f1,f2,f3,f4,f5,f6,f7,f8,f9,gx,l7⟩:=R3.Od;have⟨W,hW,⟨t0,t1,t2,t3,t4,t5,t6,t7,t8,t9,wJ,cq⟩,T3,Fa,J8⟩:=R3.vaC pc;have yA:=ZE (J8 _ _ Q ax);have ED:=ZE (((xO.touch T3 (λb h1 _ h2=>Q)).vb4 (show w.heap.size<=_ by omega) (Nat.le_of_eq Fa.symm)));clear J8 R3 T3 Fa xO ax ar mx ac;go_wp2;exact ZM (v:=.agg #[J 0,nS,nS,nS,nS,nS,nS,J 0,nS,nS,J 0,J pc]) (by simp[results,Tryz.results5,go_sem,t0,t1,t2,t3,t4,t5,t6,t7,t8,t9,wJ,cq]) rfl (by rw[Hi.out];exact⟨⟨none,none,none,none,none,none,none,none,0,0,0,0,0,0,0,0,rfl,ED.out⟩,yA.out⟩)
