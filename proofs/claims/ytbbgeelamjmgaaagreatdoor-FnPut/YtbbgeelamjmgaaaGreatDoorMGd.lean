import Derived.Test.YtbbgeelamjmgaaaGreatDoorSLd
set_option maxHeartbeats 0
set_option linter.unusedSimpArgs false
open Go.RowKit Go.Sort
namespace Go.Proofs.YtbbgeelamjmgaaaGreatDoor
variable{w w':World}{B vUU vZZ n q:Nat}{t:TypeId}{v va vb vc:Value}{rows zr:List (List Value)}{a:Option Addr}{zs:List pE}{r:ZW}{s:ZP}
structure Mk(w:World)(B vUU:Nat)(t:TypeId)(q:Nat)(v:Value)(rows:List (List Value)):Prop where
 own:w.ownsRow B t q v rows.length rows.flatten
 top:∀g,v.ownBlock=some g->g<vUU
theorem Mk.nil(w:World)(B vUU:Nat)(t:TypeId)(q:Nat):Mk w B vUU t q nS []:=⟨World.ownsRow_nil _ _ _ _,λg h=>by simp[Value.ownBlock]at h⟩
theorem Mk.shape(h:Mk w B vUU t q v rows):∃a cap,v=U a rows.length cap:=by
 rcases h.own.2 with⟨h1,h2⟩|⟨g,cap,_,h1,_⟩
 .exact⟨none,0,by rw[h1,h2]⟩
 .exact⟨_,_,h1⟩
theorem Mk.below(h:Mk w B vUU t q v rows)(hb:Bw w w'):Mk w' B vUU t q v rows:=⟨uZ h.own hb,h.top⟩
theorem Mk.wide{B' U':Nat}(h:Mk w B vUU t q v rows)(hB:B'<=B)(hU:vUU<=U'):Mk w B' U' t q v rows:=⟨Ez h.own hB,λg hg=>Nat.lt_of_lt_of_le (h.top g hg) hU⟩
theorem Mk.touch{S:Nat->Prop}(h:Mk w B vUU t q v rows)(ht:Zc S w w')(hS:∀b,B<=b->b<vUU->¬S b):Mk w' B vUU t q v rows:=by
 have⟨⟨hl,hv⟩,h2⟩:=h;refine⟨⟨hl,?_⟩,h2⟩;rcases hv with h|⟨g,cap,cur,rfl,hB,hg,hr⟩
 .exact .inl h
 .exact .inr ⟨g,cap,cur,rfl,hB,(ht.block g (Array.getElem?_eq_some_iff.mp hg).1 (hS g hB (h2 g rfl))).trans hg,hr⟩
theorem Mk.seq{cap:Nat}(h:Mk w B vUU t q (U a n cap) rows)(hq:∀r∈rows,r.length=q):Za w a q rows:=by
 have⟨a',c',he,hs,_⟩:=jbe h.own hq;injection he with h1
 rw[h1];exact hs
structure vb6(w:World)(vZZ vUU:Nat)(zr:List (List Value))(zs:List pE):Prop where
 len:zr.length=zs.length
 at_:∀(i:Nat) (z:pE),zs[i]? =some z->∃e c,zr[i]? =some [I z.name,U e z.ZC.length c]/\Mk w vZZ vUU 154 6 (U e z.ZC.length c) (z.ZC.map ZH.cs)
 inc:∀(i j:Nat) (ni nj:Value) (gi gj ki kj ci cj:Nat),i<j->zr[i]? =some [ni,so gi ki ci]->zr[j]? =some [nj,so gj kj cj]->gi<gj
theorem vb6.below(h:vb6 w vZZ vUU zr zs)(hb:Bw w w'):vb6 w' vZZ vUU zr zs:=⟨h.len,λi z hz=>by
 have⟨e,c,h1,h2⟩:=h.at_ i z hz
 exact⟨e,c,h1,h2.below hb⟩,h.inc⟩
theorem vb6.touch{S:Nat->Prop}(h:vb6 w vZZ vUU zr zs)(ht:Zc S w w')(hS:∀b,vZZ<=b->b<vUU->¬S b):vb6 w' vZZ vUU zr zs:=⟨h.len,λi z hz=>by
 have⟨e,c,h1,h2⟩:=h.at_ i z hz
 exact⟨e,c,h1,h2.touch ht hS⟩,h.inc⟩
structure vaf(w:World)(B vUU:Nat)(va vb vc:Value)(r:ZW):Prop where
 ex:∃vZZ R L zr,(B<=vZZ/\vZZ<=R/\R<=L/\L<=vUU)/\Mk w B vZZ 120 2 vb zr/\vb6 w vZZ R zr r.YU/\(∀x∈zr,x.length=2)/\Mk w R L 116 9 va (r.Vv.map ZQ.cs)/\Mk w L vUU 122 2 vc (r.YW.map vH.cs)
theorem vaf.below(h:vaf w B vUU va vb vc r)(hb:Bw w w'):vaf w' B vUU va vb vc r:=by
 have⟨vZZ,R,L,zr,h1,h2,h3,h4,h5,h6⟩:=h.ex;exact⟨vZZ,R,L,zr,h1,h2.below hb,h3.below hb,h4,h5.below hb,h6.below hb⟩
theorem vaf.touch{S:Nat->Prop}(h:vaf w B vUU va vb vc r)(ht:Zc S w w')(hS:∀b,B<=b->b<vUU->¬S b):vaf w' B vUU va vb vc r:=by
 have⟨vZZ,R,L,zr,⟨k1,k2,k3,k4⟩,h2,h3,h4,h5,h6⟩:=h.ex;exact⟨vZZ,R,L,zr,⟨k1,k2,k3,k4⟩,h2.touch ht λb p q=>hS b p Q,h3.touch ht λb p q=>hS b Q Q,h4,h5.touch ht λb p q=>hS b Q Q,h6.touch ht λb p q=>hS b Q q⟩
theorem vaf.shape(h:vaf w B vUU va vb vc r):∃a b c ca cb cc,va=U a r.Vv.length ca/\vb=U b r.YU.length cb/\vc=U c r.YW.length cc:=by
 have⟨vZZ,R,L,zr,_,h2,h3,_,h5,h6⟩:=h.ex;have⟨b,cb,hb⟩:=h2.shape;have⟨a,ca,ha⟩:=h5.shape;have⟨c,cc,hc⟩:=h6.shape;exact⟨a,b,c,ca,cb,cc,by rw[ha,BX],by rw[hb,h3.len],by rw[hc,BX]⟩
theorem vaf.rel(h:vaf w B vUU va vb vc r):Zd w (.agg #[va,vb,vc]) r:=by
 obtain⟨a,b,c,ca,cb,cc,rfl,rfl,rfl⟩:=h.shape;have⟨vZZ,R,L,zr,_,h2,h3,h4,h5,h6⟩:=h.ex;refine⟨a,b,c,ca,cb,cc,rfl,h5.seq (jlb (cs:=ZQ.cs) (λ_=>rfl) _),?_,h6.seq (jlb (cs:=vH.cs) (λ_=>rfl) _)⟩;rcases h2.seq h4 with h|⟨g,o,rfl,hc⟩
 .refine .inl (List.length_eq_zero_iff.mp ?_)
  rw[<- h3.len,h];rfl
 .refine .inr ⟨g,o,rfl,λi z hz=>?_⟩
  have⟨e,ce,k1,k2⟩:=h3.at_ i z hz;exact⟨by simpa using hc i 0 _ _ k1 rfl,_,by simpa using hc i 1 _ _ k1 rfl,e,ce,rfl,k2.seq (jlb (cs:=ZH.cs) (λ_=>rfl) _)⟩
def rc(r:ZW):Nat:=9*r.Vv.length+zc r.YU+2*r.YW.length
structure StC(w:World)(B vUU:Nat)(v:Value)(s:ZP):Prop where
 form:∃a b c d e f va ia ca cb cc cd ce cf cv ci M1 M2 M3,v=.agg (stA s a b c d e f va ia ca cb cc cd ce cf cv ci).toArray/\(B<=M1/\M1<=M2/\M2<=M3/\M3<=vUU)/\vaf w B M1 (U a s.YT.Vv.length ca) (U b s.YT.YU.length cb) (U c s.YT.YW.length cc) s.YT/\vaf w M1 M2 (U d s.YS.Vv.length cd) (U e s.YS.YU.length ce) (U f s.YS.YW.length cf) s.YS/\Mk w M2 M3 82 8 (U va s.vs.length cv) (s.vs.map ZN.cs)/\Mk w M3 vUU 76 2 (U ia s.ix.length ci) (s.ix.map ZY.cs)
theorem StC.below(h:StC w B vUU v s)(hb:Bw w w'):StC w' B vUU v s:=by
 have⟨a,b,c,d,e,f,va,ia,ca,cb,cc,cd,ce,cf,cv,ci,M1,M2,M3,h0,h1,h2,h3,h4,h5⟩:=h.form;exact⟨a,b,c,d,e,f,va,ia,ca,cb,cc,cd,ce,cf,cv,ci,M1,M2,M3,h0,h1,h2.below hb,h3.below hb,h4.below hb,h5.below hb⟩
theorem StC.touch{S:Nat->Prop}(h:StC w B vUU v s)(ht:Zc S w w')(hS:∀b,B<=b->b<vUU->¬S b):StC w' B vUU v s:=by
 have⟨a,b,c,d,e,f,va,ia,ca,cb,cc,cd,ce,cf,cv,ci,M1,M2,M3,h0,⟨k1,k2,k3,k4⟩,h2,h3,h4,h5⟩:=h.form;exact⟨a,b,c,d,e,f,va,ia,ca,cb,cc,cd,ce,cf,cv,ci,M1,M2,M3,h0,⟨k1,k2,k3,k4⟩,h2.touch ht λb p q=>hS b p Q,h3.touch ht λb p q=>hS b Q Q,h4.touch ht λb p q=>hS b Q Q,h5.touch ht λb p q=>hS b Q q⟩
theorem Mk.cap{cap:Nat}(h:Mk w B vUU t q (U a n cap) rows):n<=cap:=by
 rcases h.own.2 with⟨h1,h2⟩|⟨g,c,_,h1,_,_,h2,_⟩
 .injection h1 with _ h1;omega
 .injection h1 with _ h3 h1;omega
theorem StC.st(h:StC w B vUU v s):Jd w v s:=by
 have⟨a,b,c,d,e,f,va,ia,ca,cb,cc,cd,ce,cf,cv,ci,M1,M2,M3,h0,h1,h2,h3,h4,h5⟩:=h.form;exact⟨a,b,c,d,e,f,va,ia,ca,cb,cc,cd,ce,cf,cv,ci,h0,h2.rel,h3.rel,h4.seq (jlb (cs:=ZN.cs) (λ_=>rfl) _),h5.seq (jlb (cs:=ZY.cs) (λ_=>rfl) _),h4.cap,h5.cap⟩
