import Derived.Lib.SmallJoins
import Derived.Test.YtpejeokacilebaaGreatDoorSBd
import Derived.Test.YtpejeokacilebaaGreatDoorMarkPd
set_option maxRecDepth 100000
set_option maxHeartbeats 0
set_option linter.unusedSimpArgs false
open Go.RowKit Go.Sort
namespace Go.Proofs.YtpejeokacilebaaGreatDoor
section
open Go.ChangeShapes Go.WideShapes Go.ChangeAt Go.RowKit Go.Deep
theorem jfc{α:Type}{P:Nat->α->Prop}:∀n,(∀i,i<n->∃r,P i r)->∃l:List α,l.length=n/\∀i r,l[i]? =some r->P i r:=by
 intro n
 induction n with
 |zero=>intro _;exact⟨[],rfl,fun i r h=>by simp at h⟩
 |succ n ih=>
  intro h
  obtain⟨l,hl,hp⟩:=ih fun i hi=>h i (by omega)
  obtain⟨r,hr⟩:=h n (by omega)
  refine⟨l++[r],by simp[hl],fun i x hx=>?_⟩
  rcases Nat.lt_or_ge i l.length with hi|hi
  ·rw[lgl hi]at hx;exact hp i x hx
  ·rw[List.getElem?_append_right hi]at hx
   have e:i-l.length=0:=by
    rcases Nat.eq_zero_or_pos (i-l.length)with e|e
    ·exact e
    ·rw[List.getElem?_eq_none (by simp;omega)]at hx;cases hx
   rw[e]at hx
   simp at hx
   subst hx
   have:i=n:=by omega
   subst this;exact hr
theorem cS:Tryz.prog.cellsOf 9=1:=by kernel_rfl
theorem cI:Tryz.prog.cellsOf 2=1:=by kernel_rfl
section
variable {H : Type} {enc : TypeId × Value -> H} {w : World} {bF : Nat -> Bool} {held : Bool}
theorem jpa:Tryz.prog.cellsOf 123=9:=by kernel_rfl
theorem jvs{n:Nat}{cs:List Value}{x:DataW H × List MemPlace}(h:DataW.trod enc Tryz.prog w 0 bF held n 123 cs=some x):∃r:RuleD,cs=r.cs/\r.ok:=by
 obtain⟨xs,k,_,_,hl,de,hf⟩:=DataW.trod_struct Tryz.underlying123 h
 rw[jpa]at hl
 have g9:xs.length=9:=de
 clear de
 match xs,g9,cs,hl with
 |[y0,y1,y2,y3,y4,y5,y6,y7,y8],_,[c0,c1,c2,c3,c4,c5,c6,c7,c8],_=>
  have g0:=hf 0 _ rfl
  have g1:=hf 1 _ rfl
  have g2:=hf 2 _ rfl
  have g3:=hf 3 _ rfl
  have g4:=hf 4 _ rfl
  have g5:=hf 5 _ rfl
  have g6:=hf 6 _ rfl
  have g7:=hf 7 _ rfl
  have g8:=hf 8 _ rfl
  simp[cS,cI]at g0 g1 g2 g3 g4 g5 g6 g7 g8
  obtain⟨s0,e0,_,m0⟩:=DataW.trod_string Tryz.underlying9 g0
  obtain⟨s1,e1,_,m1⟩:=DataW.trod_int Tryz.underlying2 g1
  obtain⟨s2,e2,_,m2⟩:=DataW.trod_int Tryz.underlying2 g2
  obtain⟨s3,e3,_,m3⟩:=DataW.trod_int Tryz.underlying2 g3
  obtain⟨s4,e4,_,m4⟩:=DataW.trod_string Tryz.underlying9 g4
  obtain⟨s5,e5,_,m5⟩:=DataW.trod_int Tryz.underlying2 g5
  obtain⟨s6,e6,_,m6⟩:=DataW.trod_string Tryz.underlying9 g6
  obtain⟨s7,e7,_,m7⟩:=DataW.trod_int Tryz.underlying2 g7
  obtain⟨s8,e8,_,m8⟩:=DataW.trod_string Tryz.underlying9 g8
  simp at e0 e1 e2 e3 e4 e5 e6 e7 e8
  subst e0 e1 e2 e3 e4 e5 e6 e7 e8
  exact⟨⟨s0,s1,s2,s3,s4,s5,s6,s7,s8⟩,rfl,⟨m0,m4,m6,m8⟩⟩
theorem js9{n:Nat}{c:Value}{x:DataW H × List MemPlace}(h:DataW.trod enc Tryz.prog w 0 bF held n 22 [c]=some x):∃(l:List RuleD) (a:Option Addr) (cap:Nat),c=.slice a l.length cap/\Za w a 9 (l.map RuleD.cs)/\l.length<=maxLen/\∀r∈l,r.ok:=by
 rcases open_slice Tryz.underlying22 h with⟨hc,_⟩|⟨a,len,cap,m,k,D,Pl,hc,_,hl,hm,gi,_,hx⟩
 ·simp at hc;subst hc
  exact⟨[],none,0,rfl,.inl rfl,Nat.zero_le _,fun r hr=>by simp at hr⟩
 ·simp at hc;subst hc
  have wf:len<=m:=by rw[gi];split<;>omega
  obtain⟨l,i9,hp⟩:=jfc (P:=fun i (r:RuleD)=>(∀j v,r.cs[j]? =some v->w.cell? (a.add (i*9+j))=some v)/\r.ok) len fun i hi=>by
   obtain⟨vy,h1,h2⟩:=hx i (by omega)
   rw[jpa]at h1
   obtain⟨_,au,aE⟩:=World.cells?_some h1
   obtain⟨r,rfl,ok⟩:=jvs h2
   refine⟨r,fun j v hj=>?_,ok⟩
   have:=aE j (by have:=(lgs hj).1;omega)
   rw[add_add]at this
   rw[this,hj]
  refine⟨l,some a,cap,by rw[i9],?_,by omega,fun r hr=>by obtain⟨i,hi⟩:=lgo hr;exact(hp i r hi).2⟩
  cases hl0:l with
  |nil=>exact .inl rfl
  | cons r0 l'=>
   obtain⟨b,off,ep⟩:=a
   have cH:ep=none:=by
    have:=(hp 0 r0 (by rw[hl0];rfl)).1 0 _ rfl
    simpa [Addr.add]using World.cell?_spot this
   subst cH
   rw[<- hl0]
   refine .inr ⟨b,off,rfl,fun i j row v hi hj=>?_⟩
   rw[lgm]at hi
   obtain⟨r,hr,rfl⟩:=Option.map_eq_some_iff.mp hi
   have:=(hp i r hr).1 j v hj
   rw[add_plain]at this
   rw[show off+i*9+j=off+(i*9+j) by omega]
   exact this
theorem jsh:Tryz.prog.cellsOf 187=6:=by kernel_rfl
theorem jy9{n:Nat}{cs:List Value}{x:DataW H × List MemPlace}(h:DataW.trod enc Tryz.prog w 0 bF held n 187 cs=some x):∃r:EraD,cs=r.cs/\r.ok:=by
 obtain⟨xs,k,_,_,hl,de,hf⟩:=DataW.trod_struct Tryz.underlying187 h
 rw[jsh]at hl
 have g9:xs.length=6:=de
 clear de
 match xs,g9,cs,hl with
 |[y0,y1,y2,y3,y4,y5],_,[c0,c1,c2,c3,c4,c5],_=>
  have g0:=hf 0 _ rfl
  have g1:=hf 1 _ rfl
  have g2:=hf 2 _ rfl
  have g3:=hf 3 _ rfl
  have g4:=hf 4 _ rfl
  have g5:=hf 5 _ rfl
  simp[cS,cI]at g0 g1 g2 g3 g4 g5
  obtain⟨s0,e0,_,m0⟩:=DataW.trod_int Tryz.underlying2 g0
  obtain⟨s1,e1,_,m1⟩:=DataW.trod_string Tryz.underlying9 g1
  obtain⟨s2,e2,_,m2⟩:=DataW.trod_int Tryz.underlying2 g2
  obtain⟨s3,e3,_,m3⟩:=DataW.trod_string Tryz.underlying9 g3
  obtain⟨s4,e4,_,m4⟩:=DataW.trod_int Tryz.underlying2 g4
  obtain⟨s5,e5,_,m5⟩:=DataW.trod_string Tryz.underlying9 g5
  simp at e0 e1 e2 e3 e4 e5
  subst e0 e1 e2 e3 e4 e5
  exact⟨⟨s0,s1,s2,s3,s4,s5⟩,rfl,⟨m1,m3,m5⟩⟩
theorem jvu{n:Nat}{c:Value}{x:DataW H × List MemPlace}(h:DataW.trod enc Tryz.prog w 0 bF held n 125 [c]=some x):∃(l:List EraD) (a:Option Addr) (cap:Nat),c=.slice a l.length cap/\Za w a 6 (l.map EraD.cs)/\l.length<=maxLen/\∀r∈l,r.ok:=by
 rcases open_slice Tryz.underlying125 h with⟨hc,_⟩|⟨a,len,cap,m,k,D,Pl,hc,_,hl,hm,gi,_,hx⟩
 ·simp at hc;subst hc
  exact⟨[],none,0,rfl,.inl rfl,Nat.zero_le _,fun r hr=>by simp at hr⟩
 ·simp at hc;subst hc
  have wf:len<=m:=by rw[gi];split<;>omega
  obtain⟨l,i9,hp⟩:=jfc (P:=fun i (r:EraD)=>(∀j v,r.cs[j]? =some v->w.cell? (a.add (i*6+j))=some v)/\r.ok) len fun i hi=>by
   obtain⟨vy,h1,h2⟩:=hx i (by omega)
   rw[jsh]at h1
   obtain⟨_,au,aE⟩:=World.cells?_some h1
   obtain⟨r,rfl,ok⟩:=jy9 h2
   refine⟨r,fun j v hj=>?_,ok⟩
   have:=aE j (by have:=(lgs hj).1;omega)
   rw[add_add]at this
   rw[this,hj]
  refine⟨l,some a,cap,by rw[i9],?_,by omega,fun r hr=>by obtain⟨i,hi⟩:=lgo hr;exact(hp i r hi).2⟩
  cases hl0:l with
  |nil=>exact .inl rfl
  | cons r0 l'=>
   obtain⟨b,off,ep⟩:=a
   have cH:ep=none:=by
    have:=(hp 0 r0 (by rw[hl0];rfl)).1 0 _ rfl
    simpa [Addr.add]using World.cell?_spot this
   subst cH
   rw[<- hl0]
   refine .inr ⟨b,off,rfl,fun i j row v hi hj=>?_⟩
   rw[lgm]at hi
   obtain⟨r,hr,rfl⟩:=Option.map_eq_some_iff.mp hi
   have:=(hp i r hr).1 j v hj
   rw[add_plain]at this
   rw[show off+i*6+j=off+(i*6+j) by omega]
   exact this
theorem jpb:Tryz.prog.cellsOf 129=2:=by kernel_rfl
theorem jvt{n:Nat}{cs:List Value}{x:DataW H × List MemPlace}(h:DataW.trod enc Tryz.prog w 0 bF held n 129 cs=some x):∃r:LinkD,cs=r.cs/\r.ok:=by
 obtain⟨xs,k,_,_,hl,de,hf⟩:=DataW.trod_struct Tryz.underlying129 h
 rw[jpb]at hl
 have g9:xs.length=2:=de
 clear de
 match xs,g9,cs,hl with
 |[y0,y1],_,[c0,c1],_=>
  have g0:=hf 0 _ rfl
  have g1:=hf 1 _ rfl
  simp[cS]at g0 g1
  obtain⟨s0,e0,_,m0⟩:=DataW.trod_string Tryz.underlying9 g0
  obtain⟨s1,e1,_,m1⟩:=DataW.trod_string Tryz.underlying9 g1
  simp at e0 e1
  subst e0 e1
  exact⟨⟨s0,s1⟩,rfl,⟨m0,m1⟩⟩
theorem jta{n:Nat}{c:Value}{x:DataW H × List MemPlace}(h:DataW.trod enc Tryz.prog w 0 bF held n 24 [c]=some x):∃(l:List LinkD) (a:Option Addr) (cap:Nat),c=.slice a l.length cap/\Za w a 2 (l.map LinkD.cs)/\l.length<=maxLen/\∀r∈l,r.ok:=by
 rcases open_slice Tryz.underlying24 h with⟨hc,_⟩|⟨a,len,cap,m,k,D,Pl,hc,_,hl,hm,gi,_,hx⟩
 ·simp at hc;subst hc
  exact⟨[],none,0,rfl,.inl rfl,Nat.zero_le _,fun r hr=>by simp at hr⟩
 ·simp at hc;subst hc
  have wf:len<=m:=by rw[gi];split<;>omega
  obtain⟨l,i9,hp⟩:=jfc (P:=fun i (r:LinkD)=>(∀j v,r.cs[j]? =some v->w.cell? (a.add (i*2+j))=some v)/\r.ok) len fun i hi=>by
   obtain⟨vy,h1,h2⟩:=hx i (by omega)
   rw[jpb]at h1
   obtain⟨_,au,aE⟩:=World.cells?_some h1
   obtain⟨r,rfl,ok⟩:=jvt h2
   refine⟨r,fun j v hj=>?_,ok⟩
   have:=aE j (by have:=(lgs hj).1;omega)
   rw[add_add]at this
   rw[this,hj]
  refine⟨l,some a,cap,by rw[i9],?_,by omega,fun r hr=>by obtain⟨i,hi⟩:=lgo hr;exact(hp i r hi).2⟩
  cases hl0:l with
  |nil=>exact .inl rfl
  | cons r0 l'=>
   obtain⟨b,off,ep⟩:=a
   have cH:ep=none:=by
    have:=(hp 0 r0 (by rw[hl0];rfl)).1 0 _ rfl
    simpa [Addr.add]using World.cell?_spot this
   subst cH
   rw[<- hl0]
   refine .inr ⟨b,off,rfl,fun i j row v hi hj=>?_⟩
   rw[lgm]at hi
   obtain⟨r,hr,rfl⟩:=Option.map_eq_some_iff.mp hi
   have:=(hp i r hr).1 j v hj
   rw[add_plain]at this
   rw[show off+i*2+j=off+(i*2+j) by omega]
   exact this
theorem jo9:Tryz.prog.cellsOf 127=2:=by kernel_rfl
theorem cE:Tryz.prog.cellsOf 125=1:=by kernel_rfl
theorem jvr{n:Nat}{cs:List Value}{x:DataW H × List MemPlace}(h:DataW.trod enc Tryz.prog w 0 bF held n 127 cs=some x):∃(z:ZoneD) (v:Value),cs=[.string z.name,v]/\Jf w v z.eras/\z.ok:=by
 obtain⟨xs,k,_,_,hl,de,hf⟩:=DataW.trod_struct Tryz.underlying127 h
 rw[jo9]at hl
 have g9:xs.length=2:=de
 clear de
 match xs,g9,cs,hl with
 |[y0,y1],_,[c0,c1],_=>
  have g0:=hf 0 _ rfl
  have g1:=hf 1 _ rfl
  simp[cS,cE]at g0 g1
  obtain⟨s0,e0,_,m0⟩:=DataW.trod_string Tryz.underlying9 g0
  simp at e0
  subst e0
  obtain⟨l,a,cap,rfl,hs,hl,ok⟩:=jvu g1
  exact⟨⟨s0,l⟩,_,rfl,⟨a,cap,rfl,hs⟩,⟨m0,hl,ok⟩⟩
theorem js7{n:Nat}{c:Value}{x:DataW H × List MemPlace}(h:DataW.trod enc Tryz.prog w 0 bF held n 23 [c]=some x):∃(l:List ZoneD) (a:Option Addr) (cap:Nat),c=.slice a l.length cap/\Zo w a l/\l.length<=maxLen/\∀r∈l,r.ok:=by
 rcases open_slice Tryz.underlying23 h with⟨hc,_⟩|⟨a,len,cap,m,k,D,Pl,hc,_,hl,hm,gi,_,hx⟩
 ·simp at hc;subst hc
  exact⟨[],none,0,rfl,.inl rfl,Nat.zero_le _,fun r hr=>by simp at hr⟩
 ·simp at hc;subst hc
  have wf:len<=m:=by rw[gi];split<;>omega
  obtain⟨l,i9,hp⟩:=jfc (P:=fun i (z:ZoneD)=>(w.cell? (a.add (i*2))=some (.string z.name)/\∃v,w.cell? (a.add (i*2+1))=some v/\Jf w v z.eras)/\z.ok) len fun i hi=>by
   obtain⟨vy,h1,h2⟩:=hx i (by omega)
   rw[jo9]at h1
   obtain⟨_,au,aE⟩:=World.cells?_some h1
   obtain⟨z,v,rfl,hv,ok⟩:=jvr h2
   have e0:=aE 0 (by omega)
   have e1:=aE 1 (by omega)
   rw[add_add]at e0 e1
   exact⟨z,⟨by simpa using e0,v,by simpa using e1,hv⟩,ok⟩
  refine⟨l,some a,cap,by rw[i9],?_,by omega,fun r hr=>by obtain⟨i,hi⟩:=lgo hr;exact(hp i r hi).2⟩
  cases hl0:l with
  |nil=>exact .inl rfl
  | cons r0 l'=>
   obtain⟨b,off,ep⟩:=a
   have cH:ep=none:=by
    have:=(hp 0 r0 (by rw[hl0];rfl)).1.1
    simpa [Addr.add]using World.cell?_spot this
   subst cH
   rw[<- hl0]
   refine .inr ⟨b,off,rfl,fun i z hz=>?_⟩
   obtain⟨⟨c0,v,c1,hv⟩,_⟩:=hp i z hz
   rw[add_plain]at c0 c1
   exact⟨c0,v,by rw[show off+i*2+1=off+(i*2+1) by omega];exact c1,hv⟩
end
end
def StoreD.sz(s:StoreD):Nat:=s.now.sz+s.was.sz+(s.vs.length+vsz s.vs)+s.ix.length
structure StoreD.ok(s:StoreD):Prop where
 now:s.now.ok
 was:s.was.ok
 vl:s.vs.length<=maxLen
 vs:∀v∈s.vs,v.ok
 xl:s.ix.length<=maxLen
theorem StoreD.ok.store{s:StoreD}(h:s.ok)(hs:s.sz<=1048576):Zr s:=by
 unfold StoreD.sz at hs
 obtain⟨sm,di⟩:=jng (r:=s.now) (by omega)
 obtain⟨wZ,sg⟩:=jng (r:=s.was) (by omega)
 exact⟨⟨h.now,sm,di⟩,⟨h.was,wZ,sg⟩,h.vs,by omega,by omega⟩
theorem jl7(m:Nat)(a:Option Addr)(cap:Nat)(n:Int)(w:World)(hl:m<=maxLen)(h0:0<=n)(h1:n<=1048576):
  Cl 11 #[.slice a m cap,iv n] w fun e w'=>e=.returned (iv (clip (n-m)))/\Bw w w':=by
 unfold maxLen at hl
 by_cases g:n<m
 ·have HR:Hid (clip (n-m)= -1):=jal (by omega)
  unfold Cl;go_in
  go_wp2
  go_ret
  exact⟨ret_int HR.out.symm,brf _ _⟩
 ·have HR:Hid (clip (n-m)=n-m):=jbb (by omega)
  unfold Cl;go_in
  go_wp2
  go_ret
  exact⟨ret_int HR.out.symm,brf _ _⟩
theorem jn0(s:StoreD)(v:Value)(n:Int)(w:World)(hv:Jd w v s)(hm:s.ok)(h0:0<=n)(h1:n<=1048576):
  Cl 4 #[v,iv n] w fun e w'=>e=.returned (iv (clip (n-s.sz)))/\Bw w w':=by
 obtain⟨a,b,c,d,e,f,va,ia,ca,cb,cc,cd,ce,cf,cv,ci,rfl,hN,hW,hV,hX,_,_⟩:=hv.form
 obtain⟨tx,now,was,cur,vs,ix⟩:=s
 obtain⟨m1,m2,m3,m4,m5⟩:=hm
 simp only[StoreD.sz]at *
 have ag:Bw w (w.alloc (.cells #[iv tx,.slice a now.rules.length ca,.slice b now.zones.length cb,.slice c now.links.length cc,.slice d was.rules.length cd,.slice e was.zones.length ce,.slice f was.links.length cf,iv cur,.slice va vs.length cv,.slice ia ix.length ci] 30)):=qal _ _
 have q1:=fun w (h:Zd w (.agg #[.slice a now.rules.length ca,.slice b now.zones.length cb,.slice c now.links.length cc]) now)=>jey now _ n w h m1 h0 h1
 obtain⟨x4,x5,x6,x8,x9⟩:(fun z:World=>z.cell? (ad w.heap.size 4)=some (.slice d was.rules.length cd)/\z.cell? (ad w.heap.size 5)=some (.slice e was.zones.length ce)/\z.cell? (ad w.heap.size 6)=some (.slice f was.links.length cf)/\z.cell? (ad w.heap.size 8)=some (.slice va vs.length cv)/\z.cell? (ad w.heap.size 9)=some (.slice ia ix.length ci)) (w.alloc (.cells #[iv tx,.slice a now.rules.length ca,.slice b now.zones.length cb,.slice c now.links.length cc,.slice d was.rules.length cd,.slice e was.zones.length ce,.slice f was.links.length cf,iv cur,.slice va vs.length cv,.slice ia ix.length ci] 30)):=by simp[go_sem]
 have q2:=fun n w (h:Zd w (.agg #[.slice d was.rules.length cd,.slice e was.zones.length ce,.slice f was.links.length cf]) was)=>jey was _ n w h m2
 have q3:=fun n w (h:Za w va 8 (vs.map VersionD.cs))=>jiv vs va cv n w h m4 m3
 have q4:=fun n w=>jl7 ix.length ia ci n w m5
 generalize now.sz=z1 at *
 generalize was.sz=z2 at *
 generalize vsz vs=z3 at *
 have HC:Hid (∀y:Int,y=n-z1-z2-(vs.length+z3)-ix.length->clip (n-↑(z1+z2+(vs.length+z3)+ix.length))=clip y):=fun y hy=>by rw[hy];congr 1;omega
 have HM:Hid (n-z1<0\/n-z1-z2<0\/n-z1-z2-(vs.length+z3)<0->clip (n-↑(z1+z2+(vs.length+z3)+ix.length))= -1):=fun h=>jal (by omega)
 have HN:=hid hV
 have HW:=hid hW
 have fU:=hN.below ag
 clear hX hV hW hN m1 m2 m4 hv
 unfold Cl;go_in
 go_wp2_with fail
 refine(q1 _ fU).mono ?_
 rintro e w1 ⟨rfl,hb1⟩
 have aj:=qtr ag hb1
 have y4:=jaa hb1 x4
 have y5:=jaa hb1 x5
 have y6:=jaa hb1 x6
 have y8:=jaa hb1 x8
 have y9:=jaa hb1 x9
 clear q1 hb1 fU ag x4 x5 x6 x8 x9
 by_cases g1:n-z1<0
 ·have HR:=HM.out (.inl g1)
  rw[jal g1]
  clear HC HM
  go_wp2
  go_ret
  exact⟨ret_int HR.symm,aj⟩
 rw[jbb (by omega)]
 go_wp2_with fail
 refine(q2 _ _ (HW.out.below aj) (by omega) (by omega)).mono ?_
 rintro e w2 ⟨rfl,ac⟩
 have an:=qtr aj ac
 have x8:=jaa ac y8
 have x9:=jaa ac y9
 clear q2 ac aj y4 y5 y6 y8 y9
 by_cases g2:n-z1-z2<0
 ·have HR:=HM.out (.inr (.inl g2))
  rw[jal g2]
  clear HC HM
  go_wp2
  go_ret
  exact⟨ret_int HR.symm,an⟩
 rw[jbb (by omega)]
 go_wp2_with fail
 refine(q3 _ _ (HN.out.below an) (by omega) (by omega)).mono ?_
 rintro e w3 ⟨rfl,ar⟩
 have ax:=qtr an ar
 have y9:=jaa ar x9
 clear q3 ar an x8 x9
 by_cases g3:n-z1-z2-(vs.length+z3)<0
 ·have HR:=HM.out (.inr (.inr g3))
  rw[jal g3]
  clear HC HM
  go_wp2
  go_ret
  exact⟨ret_int HR.symm,ax⟩
 rw[jbb (by omega)]
 go_wp2_with fail
 refine(q4 _ _ (by omega) (by omega)).mono ?_
 rintro e w4 ⟨rfl,aD⟩
 have aR:=qtr ax aD
 have HR:=HC.out _ rfl
 clear q4 aD ax y9 HC HM
 by_cases g4:n-z1-z2-(vs.length+z3)-ix.length<0
 ·rw[jal g4]at HR ⊢
  go_wp2
  go_ret
  exact⟨ret_int HR.symm,aR⟩
 have h5:clip (n-z1-z2-(vs.length+z3)-ix.length)=n-z1-z2-(vs.length+z3)-ix.length:=jbb (by omega)
 rw[h5]at HR ⊢
 go_wp2
 go_ret
 exact⟨ret_int HR.symm,aR⟩
section
open Go.ChangeShapes Go.WideShapes Go.ChangeAt Go.RowKit Go.Deep
theorem jxw:Tryz.prog.cellsOf 4=1:=by kernel_rfl
section
variable {H : Type} {enc : TypeId × Value -> H} {w : World} {bF : Nat -> Bool} {held : Bool}
theorem jlc:Tryz.prog.cellsOf 71=6:=by kernel_rfl
theorem jtb{n:Nat}{cs:List Value}{x:DataW H × List MemPlace}(h:DataW.trod enc Tryz.prog w 0 bF held n 71 cs=some x):∃r:EventD,cs=r.cs/\r.ok:=by
 obtain⟨xs,k,_,_,hl,de,hf⟩:=DataW.trod_struct Tryz.underlying71 h
 rw[jlc]at hl
 have g9:xs.length=6:=de
 clear de
 match xs,g9,cs,hl with
 |[y0,y1,y2,y3,y4,y5],_,[c0,c1,c2,c3,c4,c5],_=>
  have g0:=hf 0 _ rfl
  have g1:=hf 1 _ rfl
  have g2:=hf 2 _ rfl
  have g3:=hf 3 _ rfl
  have g4:=hf 4 _ rfl
  have g5:=hf 5 _ rfl
  simp[cS,cI,jxw]at g0 g1 g2 g3 g4 g5
  obtain⟨s0,e0,_,m0⟩:=DataW.trod_int Tryz.underlying2 g0
  obtain⟨s1,e1,_,m1⟩:=DataW.trod_string Tryz.underlying9 g1
  obtain⟨s2,e2,_,m2⟩:=DataW.trod_string Tryz.underlying9 g2
  obtain⟨s3,e3,_,m3⟩:=DataW.trod_int Tryz.underlying2 g3
  obtain⟨s4,e4,_,m4⟩:=DataW.trod_int Tryz.underlying2 g4
  obtain⟨s5,e5,_,m5⟩:=DataW.trod_int Tryz.underlying2 g5
  simp at e0 e1 e2 e3 e4 e5
  subst e0 e1 e2 e3 e4 e5
  exact⟨⟨s0,s1,s2,s3,s4,s5⟩,rfl,⟨m1,m2⟩⟩
theorem jg4:Tryz.prog.cellsOf 73=8:=by kernel_rfl
theorem jnj{n:Nat}{cs:List Value}{x:DataW H × List MemPlace}(h:DataW.trod enc Tryz.prog w 0 bF held n 73 cs=some x):∃r:VersionD,cs=r.cs/\r.ok:=by
 obtain⟨xs,k,_,_,hl,de,hf⟩:=DataW.trod_struct Tryz.underlying73 h
 rw[jg4]at hl
 have g9:xs.length=3:=de
 clear de
 match xs,g9,cs,hl with
 |[y0,y1,y2],_,[c0,c1,c2,c3,c4,c5,c6,c7],_=>
  have g0:=hf 0 _ rfl
  have g1:=hf 1 _ rfl
  have g2:=hf 2 _ rfl
  simp[cS,cI,jxw,jlc]at g0 g1 g2
  obtain⟨s0,e0,_,m0⟩:=DataW.trod_int Tryz.underlying2 g0
  obtain⟨s1,e1,_⟩:=DataW.trod_bool Tryz.underlying4 g1
  obtain⟨ev,ee,TZ⟩:=jtb g2
  simp at e0 e1
  subst e0 e1
  simp only[EventD.cs,List.cons.injEq,and_true]at ee
  obtain⟨rfl,rfl,rfl,rfl,rfl,rfl⟩:=ee
  exact⟨⟨s0,s1,ev.id,ev.name,ev.zone,ev.wall,ev.gap,ev.fold⟩,rfl,TZ⟩
theorem jld:Tryz.prog.cellsOf 103=2:=by kernel_rfl
theorem jtc{n:Nat}{cs:List Value}{x:DataW H × List MemPlace}(h:DataW.trod enc Tryz.prog w 0 bF held n 103 cs=some x):∃r:EntryD,cs=r.cs:=by
 obtain⟨xs,k,_,_,hl,de,hf⟩:=DataW.trod_struct Tryz.underlying103 h
 rw[jld]at hl
 have g9:xs.length=2:=de
 clear de
 match xs,g9,cs,hl with
 |[y0,y1],_,[c0,c1],_=>
  have g0:=hf 0 _ rfl
  have g1:=hf 1 _ rfl
  simp[cS,cI,jxw]at g0 g1
  obtain⟨s0,e0,_,m0⟩:=DataW.trod_int Tryz.underlying2 g0
  obtain⟨s1,e1,_,m1⟩:=DataW.trod_int Tryz.underlying2 g1
  simp at e0 e1
  subst e0 e1
  exact⟨⟨s0,s1⟩,rfl⟩
theorem jl0{n:Nat}{c:Value}{x:DataW H × List MemPlace}(h:DataW.trod enc Tryz.prog w 0 bF held n 27 [c]=some x):∃(l:List VersionD) (a:Option Addr) (cap:Nat),c=.slice a l.length cap/\Za w a 8 (l.map VersionD.cs)/\l.length<=maxLen/\l.length<=cap/\∀r∈l,r.ok:=by
 rcases open_slice Tryz.underlying27 h with⟨hc,_⟩|⟨a,len,cap,m,k,D,Pl,hc,_,hl,hm,gi,_,hx⟩
 ·simp at hc;subst hc
  exact⟨[],none,0,rfl,.inl rfl,Nat.zero_le _,Nat.zero_le _,fun r hr=>by simp at hr⟩
 ·simp at hc;subst hc
  have wf:len<=m:=by rw[gi];split<;>omega
  obtain⟨l,i9,hp⟩:=jfc (P:=fun i (r:VersionD)=>(∀j v,r.cs[j]? =some v->w.cell? (a.add (i*8+j))=some v)/\r.ok) len fun i hi=>by
   obtain⟨vy,h1,h2⟩:=hx i (by omega)
   rw[jg4]at h1
   obtain⟨_,au,aE⟩:=World.cells?_some h1
   obtain⟨r,rfl,ok⟩:=jnj h2
   refine⟨r,fun j v hj=>?_,ok⟩
   have:=aE j (by have:=(lgs hj).1;omega)
   rw[add_add]at this
   rw[this,hj]
  refine⟨l,some a,cap,by rw[i9],?_,by omega,by omega,fun r hr=>by obtain⟨i,hi⟩:=lgo hr;exact(hp i r hi).2⟩
  cases hl0:l with
  |nil=>exact .inl rfl
  | cons r0 l'=>
   obtain⟨b,off,ep⟩:=a
   have cH:ep=none:=by
    have:=(hp 0 r0 (by rw[hl0];rfl)).1 0 _ rfl
    simpa [Addr.add]using World.cell?_spot this
   subst cH
   rw[<- hl0]
   refine .inr ⟨b,off,rfl,fun i j row v hi hj=>?_⟩
   rw[lgm]at hi
   obtain⟨r,hr,rfl⟩:=Option.map_eq_some_iff.mp hi
   have:=(hp i r hr).1 j v hj
   rw[add_plain]at this
   rw[show off+i*8+j=off+(i*8+j) by omega]
   exact this
theorem jpw{n:Nat}{c:Value}{x:DataW H × List MemPlace}(h:DataW.trod enc Tryz.prog w 0 bF held n 28 [c]=some x):∃(l:List EntryD) (a:Option Addr) (cap:Nat),c=.slice a l.length cap/\Za w a 2 (l.map EntryD.cs)/\l.length<=maxLen/\l.length<=cap:=by
 rcases open_slice Tryz.underlying28 h with⟨hc,_⟩|⟨a,len,cap,m,k,D,Pl,hc,_,hl,hm,gi,_,hx⟩
 ·simp at hc;subst hc
  exact⟨[],none,0,rfl,.inl rfl,Nat.zero_le _,Nat.zero_le _⟩
 ·simp at hc;subst hc
  have wf:len<=m:=by rw[gi];split<;>omega
  obtain⟨l,i9,hp⟩:=jfc (P:=fun i (r:EntryD)=>(∀j v,r.cs[j]? =some v->w.cell? (a.add (i*2+j))=some v)/\True) len fun i hi=>by
   obtain⟨vy,h1,h2⟩:=hx i (by omega)
   rw[jld]at h1
   obtain⟨_,au,aE⟩:=World.cells?_some h1
   obtain⟨r,rfl⟩:=jtc h2
   refine⟨r,fun j v hj=>?_,trivial⟩
   have:=aE j (by have:=(lgs hj).1;omega)
   rw[add_add]at this
   rw[this,hj]
  refine⟨l,some a,cap,by rw[i9],?_,by omega,by omega⟩
  cases hl0:l with
  |nil=>exact .inl rfl
  | cons r0 l'=>
   obtain⟨b,off,ep⟩:=a
   have cH:ep=none:=by
    have:=(hp 0 r0 (by rw[hl0];rfl)).1 0 _ rfl
    simpa [Addr.add]using World.cell?_spot this
   subst cH
   rw[<- hl0]
   refine .inr ⟨b,off,rfl,fun i j row v hi hj=>?_⟩
   rw[lgm]at hi
   obtain⟨r,hr,rfl⟩:=Option.map_eq_some_iff.mp hi
   have:=(hp i r hr).1 j v hj
   rw[add_plain]at this
   rw[show off+i*2+j=off+(i*2+j) by omega]
   exact this
theorem cRuS:Tryz.prog.cellsOf 22=1:=by kernel_rfl
theorem cZoS:Tryz.prog.cellsOf 23=1:=by kernel_rfl
theorem cLiS:Tryz.prog.cellsOf 24=1:=by kernel_rfl
theorem cVeS:Tryz.prog.cellsOf 27=1:=by kernel_rfl
theorem cEnS:Tryz.prog.cellsOf 28=1:=by kernel_rfl
theorem cellsRel3:Tryz.prog.cellsOf 26=3:=by kernel_rfl
theorem jnk{n:Nat}{cs:List Value}{x:DataW H × List MemPlace}(h:DataW.trod enc Tryz.prog w 0 bF held n 26 cs=some x):∃(r:RelD) (a b c:Option Addr) (ca cb cc:Nat),cs=[.slice a r.rules.length ca,.slice b r.zones.length cb,.slice c r.links.length cc]/\Zd w (.agg #[.slice a r.rules.length ca,.slice b r.zones.length cb,.slice c r.links.length cc]) r/\r.ok:=by
 obtain⟨xs,k,_,_,hl,de,hf⟩:=DataW.trod_struct Tryz.underlying26 h
 rw[cellsRel3]at hl
 have g9:xs.length=3:=de
 clear de
 match xs,g9,cs,hl with
 |[y0,y1,y2],_,[c0,c1,c2],_=>
  have g0:=hf 0 _ rfl
  have g1:=hf 1 _ rfl
  have g2:=hf 2 _ rfl
  simp[cS,cI,jxw,cRuS,cZoS,cLiS]at g0 g1 g2
  obtain⟨l0,a0,k0,rfl,s0,m0,TY⟩:=js9 g0
  obtain⟨l1,a1,k1,rfl,s1,m1,GT⟩:=js7 g1
  obtain⟨l2,a2,k2,rfl,s2,m2,kS⟩:=jta g2
  exact⟨⟨l0,l1,l2⟩,a0,a1,a2,k0,k1,k2,rfl,⟨_,_,_,_,_,_,rfl,s0,s1,s2⟩,⟨m0,TY⟩,⟨m1,GT⟩,⟨m2,kS⟩⟩
theorem jt8:Tryz.prog.cellsOf 30=10:=by kernel_rfl
theorem js8{n:Nat}{cs:List Value}{x:DataW H × List MemPlace}(h:DataW.trod enc Tryz.prog w 0 bF held n 30 cs=some x):∃s:StoreD,Jd w (.agg cs.toArray) s/\s.ok:=by
 obtain⟨xs,k,_,_,hl,de,hf⟩:=DataW.trod_struct Tryz.underlying30 h
 rw[jt8]at hl
 have g9:xs.length=6:=de
 clear de
 match xs,g9,cs,hl with
 |[y0,y1,y2,y3,y4,y5],_,[c0,c1,c2,c3,c4,c5,c6,c7,c8,c9],_=>
  have g0:=hf 0 _ rfl
  have g1:=hf 1 _ rfl
  have g2:=hf 2 _ rfl
  have g3:=hf 3 _ rfl
  have g4:=hf 4 _ rfl
  have g5:=hf 5 _ rfl
  simp[cS,cI,jxw,cellsRel3,cVeS,cEnS]at g0 g1 g2 g3 g4 g5
  obtain⟨s0,e0,_,m0⟩:=DataW.trod_int Tryz.underlying2 g0
  obtain⟨r1,a,b,c,ca,cb,cc,e1,h1,GT⟩:=jnk g1
  obtain⟨r2,d,e,f,cd,ce,cf,e2,h2,kS⟩:=jnk g2
  obtain⟨s3,e3,_,m3⟩:=DataW.trod_int Tryz.underlying2 g3
  obtain⟨vs,va,cv,rfl,sv,mv,To,U0⟩:=jl0 g4
  obtain⟨ix,ia,ci,rfl,sx,mx,Tp⟩:=jpw g5
  simp at e0 e3
  subst e0 e3
  simp only[List.cons.injEq,and_true]at e1 e2
  obtain⟨rfl,rfl,rfl⟩:=e1
  obtain⟨rfl,rfl,rfl⟩:=e2
  exact⟨⟨s0,r1,r2,s3,vs,ix⟩,⟨a,b,c,d,e,f,va,ia,ca,cb,cc,cd,ce,cf,cv,ci,rfl,h1,h2,sv,sx,To,Tp⟩,⟨GT,kS,mv,U0,mx⟩⟩
end
theorem js6 {H:Type} {enc:TypeId × Value->H} {W:World} {base:Nat} {v:Value} {d:DataW H} {p:List MemPlace}
  (hv:Value.okWide Tryz.prog W .any base 30 v) (h:DataW.Trod enc Tryz.prog W 0 (fun _=>true) true 30 v d p):∃s:StoreD,Jd W v s/\s.ok:=by
 obtain⟨cs,rfl,_⟩:=okWide_struct Tryz.underlying30 hv
 obtain⟨pi,hf⟩:=h
 obtain⟨s,h1,h2⟩:=js8 (cs:=cs.toList) (by simpa [Value.cells]using hf)
 exact⟨s,by simpa using h1,h2⟩
end
theorem Zq.from{w w':World}{B B2:Nat}{v:Value}{r:RelD}(h:Zq w B v r)(hf:Jj B2 w w')(hb:B2<=B):Zq w' B v r:=by
 obtain⟨a,b,c,hv,⟨h1,h2,h3⟩,⟨k1,k2⟩,⟨k3,k4⟩,⟨k5,k6⟩⟩:=h.form
 exact⟨a,b,c,hv,⟨h1,h2,h3⟩,⟨k1.from hf (by omega),k2.from hf (by omega)⟩,⟨k3.from hf (by omega),k4.from hf (by omega)⟩,⟨k5.from hf (by omega),k6.from hf (by omega)⟩⟩
theorem Zq.mono{w:World}{B B2:Nat}{v:Value}{r:RelD}(h:Zq w B v r)(hb:B2<=B):Zq w B2 v r:=by
 obtain⟨a,b,c,hv,⟨h1,h2,h3⟩,k⟩:=h.form
 exact⟨a,b,c,hv,⟨by omega,by omega,by omega⟩,k⟩
theorem Zz.from{w w':World}{g U B:Nat}{zs:List ZoneD}(h:Zz w g U zs)(hf:Jj B w w')(hb:B<=g):Zz w' g U zs:=fun i z hz=>by
 obtain⟨q,hq,hu,c1,hr⟩:=h i z hz
 exact⟨q,hq,hu,(hf g _ hb).1.trans c1,hr.from hf (by omega)⟩
theorem Zp.below{w w':World}{B U:Nat}{v:Value}{r:RelD}(h:Zp w B U v r)(hb:Bw w w'):Zp w' B U v r:=by
 obtain⟨a,b,c,hv,hB,hU,cm,h1,h2,h3,h4⟩:=h.form
 exact⟨a,b,c,hv,hB,hU,cm,h1.below hb,h2.below hb,h3.below hb,h4.below hb⟩
theorem Zp.from{w w':World}{B B2 U:Nat}{v:Value}{r:RelD}(h:Zp w B U v r)(hf:Jj B2 w w')(hb:B2<=B):Zp w' B U v r:=by
 obtain⟨a,b,c,hv,hB,hU,cm,h1,h2,h3,h4⟩:=h.form
 exact⟨a,b,c,hv,hB,hU,cm,h1.from hf (by omega),h2.from hf (by omega),h3.from hf (by omega),h4.from hf (by omega)⟩
theorem Zp.mono{w:World}{B B2 U:Nat}{v:Value}{r:RelD}(h:Zp w B U v r)(hb:B2<=B):Zp w B2 U v r:=by
 obtain⟨a,b,c,hv,⟨h1,h2,h3⟩,k⟩:=h.form
 exact⟨a,b,c,hv,⟨by omega,by omega,by omega⟩,k⟩
structure OwnRB(w:World)(B M:Nat)(v:Value)(r:RelD):Prop where
 own:Zq w B v r
 upto:Zp w B M v r
theorem Zq.bnd{w:World}{B:Nat}{v:Value}{r:RelD}(h:Zq w B v r):∃M,OwnRB w B M v r/\M<=w.heap.size:=⟨_,⟨h,h.upto (brf _ _)⟩,nlr _⟩
theorem OwnRB.below{w w':World}{B M:Nat}{v:Value}{r:RelD}(h:OwnRB w B M v r)(hb:Bw w w'):OwnRB w' B M v r:=⟨h.own.below hb,h.upto.below hb⟩
theorem OwnRB.from{w w':World}{B B2 M:Nat}{v:Value}{r:RelD}(h:OwnRB w B M v r)(hf:Jj B2 w w')(hb:B2<=B):OwnRB w' B M v r:=⟨h.own.from hf hb,h.upto.from hf hb⟩
structure OwnSt(w:World)(B:Nat)(v:Value)(s:StoreD):Prop where
 form:∃a b c d e f va ia,v=.agg #[iv s.tx,so a s.now.rules.length s.now.rules.length,so b s.now.zones.length s.now.zones.length,so c s.now.links.length s.now.links.length,so d s.was.rules.length s.was.rules.length,so e s.was.zones.length s.was.zones.length,so f s.was.links.length s.was.links.length,iv s.cur,so va s.vs.length s.vs.length,so ia s.ix.length s.ix.length]/\Zq w B (.agg #[so a s.now.rules.length s.now.rules.length,so b s.now.zones.length s.now.zones.length,so c s.now.links.length s.now.links.length]) s.now/\Zq w B (.agg #[so d s.was.rules.length s.was.rules.length,so e s.was.zones.length s.was.zones.length,so f s.was.links.length s.was.links.length]) s.was/\(B<=va/\Za w (some (ad va 0)) 8 (s.vs.map VersionD.cs)/\Zg w va (s.vs.length*8))/\(B<=ia/\Za w (some (ad ia 0)) 2 (s.ix.map EntryD.cs)/\Zg w ia (s.ix.length*2))/\∃M,Zp w B M (.agg #[so a s.now.rules.length s.now.rules.length,so b s.now.zones.length s.now.zones.length,so c s.now.links.length s.now.links.length]) s.now/\M<=d/\M<=e/\M<=f
theorem OwnSt.st{w:World}{B:Nat}{v:Value}{s:StoreD}(h:OwnSt w B v s):Jd w v s:=by
 obtain⟨a,b,c,d,e,f,va,ia,hv,h1,h2,⟨_,h3,_⟩,⟨_,h4,_⟩,_⟩:=h.form
 exact⟨some (ad a 0),some (ad b 0),some (ad c 0),some (ad d 0),some (ad e 0),some (ad f 0),some (ad va 0),some (ad ia 0),_,_,_,_,_,_,_,_,hv,h1.rel,h2.rel,h3,h4,nlr _,nlr _⟩
theorem OwnSt.below{w w':World}{B:Nat}{v:Value}{s:StoreD}(h:OwnSt w B v s)(hb:Bw w w'):OwnSt w' B v s:=by
 obtain⟨a,b,c,d,e,f,va,ia,hv,h1,h2,⟨b3,h3,r3⟩,⟨b4,h4,r4⟩,M,hM,hk⟩:=h.form
 exact⟨a,b,c,d,e,f,va,ia,hv,h1.below hb,h2.below hb,⟨b3,h3.below hb,r3.below hb⟩,⟨b4,h4.below hb,r4.below hb⟩,M,hM.below hb,hk⟩
abbrev stA(s:StoreD)(a b c d e f va ia:Option Addr)(ca cb cc cd ce cf cv ci:Nat):List Value:=[iv s.tx,.slice a s.now.rules.length ca,.slice b s.now.zones.length cb,.slice c s.now.links.length cc,.slice d s.was.rules.length cd,.slice e s.was.zones.length ce,.slice f s.was.links.length cf,iv s.cur,.slice va s.vs.length cv,.slice ia s.ix.length ci]
abbrev stO(s:StoreD)(a b c d e f va ia:Nat):List Value:=stA s (some (ad a 0)) (some (ad b 0)) (some (ad c 0)) (some (ad d 0)) (some (ad e 0)) (some (ad f 0)) (some (ad va 0)) (some (ad ia 0)) s.now.rules.length s.now.zones.length s.now.links.length s.was.rules.length s.was.zones.length s.was.links.length s.vs.length s.ix.length
def Zh(w:World)(b:Nat)(l:List Value):Prop:=∀(i:Nat) u,l[i]? =some u->w.cell? (ad b i)=some u/\w.frozen? (ad b i)=false
theorem Zh.below{w w':World}{b:Nat}{l:List Value}(h:Zh w b l)(hb:Bw w w'):Zh w' b l:=fun i u hu=>by
 obtain⟨h1,h2⟩:=h i u hu
 exact⟨jaa hb h1,(qfz hb h1 h2)⟩
theorem Zh.set{w:World}{b j:Nat}{l:List Value}(h:Zh w b l)(v:Value):Zh (w.setCell (ad b j) v) b (l.set j v):=fun i u hu=>by
 rw[List.getElem?_set]at hu
 split at hu
 ·rename_i e
  subst e
  split at hu
  ·rename_i hl
   obtain rfl:=osi hu
   obtain⟨x,hx⟩:=qgg hl
   obtain⟨h1,h2⟩:=h j x hx
   exact⟨wcs _ _ _ h1,by rw[World.frozen?_setCell];exact h2⟩
  ·cases hu
 ·rename_i e
  obtain⟨h1,h2⟩:=h i u hu
  exact⟨by rw[wco _ _ _ _ (by intro h;injection h with _ h;exact e h)];exact h1,by rw[World.frozen?_setCell];exact h2⟩
theorem Zh.other{w:World}{b b2 j:Nat}{l:List Value}(h:Zh w b l)(az:b≠b2)(v:Value):Zh (w.setCell (ad b2 j) v) b l:=fun i u hu=>by
 obtain⟨h1,h2⟩:=h i u hu
 exact⟨by rw[wco _ _ _ _ (jcv (Ne.symm az))];exact h1,by rw[World.frozen?_setCell];exact h2⟩
theorem Zh.new(w:World)(l:List Value)(t:TypeId):Zh (w.alloc (.cells l.toArray t)) w.heap.size l:=fun i u hu=>by
 have h:=jah w l t i u hu
 rw[addP,Nat.zero_add]at h
 have hh:=heap_alloc_new w (.cells l.toArray t)
 exact⟨h,by unfold World.frozen?;rw[hh];simp⟩
theorem bst{n:Nat}{w w2:World}(g i:Nat)(v:Value)(hg:n<=g)(h:Below n w w2):Below n w (w2.setCell (ad g i) v):=h.setCell hg v
theorem szs{w:World}{n:Nat}(a:Addr)(v:Value)(h:n<=w.heap.size):n<=(w.setCell a v).heap.size:=by rw[World.size_setCell];exact h
theorem Zh.c{w:World}{b:Nat}{l:List Value}(h:Zh w b l)(i:Nat){u:Value}(hu:l[i]? =some u):w.cell? (ad b i)=some u:=(h i u hu).1
theorem Zh.ten{w:World}{b:Nat}{p0 p1 p2 p3 p4 p5 p6 p7 p8 p9:Value}{l:List Value}(h:Zh w b (p0::p1::p2::p3::p4::p5::p6::p7::p8::p9::l)):w.cell? (ad b 0)=some p0/\w.cell? (ad b 1)=some p1/\w.cell? (ad b 2)=some p2/\w.cell? (ad b 3)=some p3/\w.cell? (ad b 4)=some p4/\w.cell? (ad b 5)=some p5/\w.cell? (ad b 6)=some p6/\w.cell? (ad b 7)=some p7/\w.cell? (ad b 8)=some p8/\w.cell? (ad b 9)=some p9:=⟨h.c 0 rfl,h.c 1 rfl,h.c 2 rfl,h.c 3 rfl,h.c 4 rfl,h.c 5 rfl,h.c 6 rfl,h.c 7 rfl,h.c 8 rfl,h.c 9 rfl⟩
theorem Zh.f{w:World}{b:Nat}{l:List Value}(h:Zh w b l)(i:Nat){u:Value}(hu:l[i]? =some u):w.frozen? (ad b i)=false:=(h i u hu).2
theorem jlb{α:Type}{cs:α->List Value}{k:Nat}(h:∀x,(cs x).length=k)(L:List α):∀r∈L.map cs,r.length=k:=fun r hr=>by
 obtain⟨x,_,rfl⟩:=List.mem_map.1 hr
 exact h x
theorem own_shape2{w:World}{base:Nat}{e:TypeId}{q:Nat}{v:Value}{n:Nat}{xs:List Value}(h:w.ownsRow base e q v n xs):∃a c,v=.slice a n c:=by
 rcases h.2 with⟨h1,h2⟩|⟨_,_,_,h1,_⟩
 ·exact⟨_,_,by rw[h1,h2]⟩
 ·exact⟨_,_,h1⟩
theorem hidP{p:Prop}(h:p):Hid p:=h
theorem js0{L:List RuleD}:∀u∈(L.map RuleD.cs).flatten,u.oneCell'=true:=fun u hu=>by
 simp only[List.mem_flatten,List.mem_map]at hu
 obtain⟨r,⟨t,_,rfl⟩,hr⟩:=hu
 simp[RuleD.cs]at hr
 rcases hr with rfl|rfl|rfl|rfl|rfl|rfl|rfl|rfl|rfl<;>rfl
theorem jti{L:List LinkD}:∀u∈(L.map LinkD.cs).flatten,u.oneCell'=true:=fun u hu=>by
 simp only[List.mem_flatten,List.mem_map]at hu
 obtain⟨r,⟨t,_,rfl⟩,hr⟩:=hu
 simp[LinkD.cs]at hr
 rcases hr with rfl|rfl<;>rfl
theorem jxg{L:List EraD}:∀u∈(L.map EraD.cs).flatten,u.oneCell'=true:=fun u hu=>by
 simp only[List.mem_flatten,List.mem_map]at hu
 obtain⟨r,⟨t,_,rfl⟩,hr⟩:=hu
 simp[EraD.cs]at hr
 rcases hr with rfl|rfl|rfl|rfl|rfl|rfl<;>rfl
theorem jup{L:List VersionD}:∀u∈(L.map VersionD.cs).flatten,u.oneCell'=true:=fun u hu=>by
 simp only[List.mem_flatten,List.mem_map]at hu
 obtain⟨r,⟨t,_,rfl⟩,hr⟩:=hu
 simp[VersionD.cs]at hr
 rcases hr with rfl|rfl|rfl|rfl|rfl|rfl|rfl|rfl<;>rfl
abbrev outA(s:StoreD)(a b c d e f va ia:Option Addr)(ca cb cc cd ce cf cv ci:Nat)(m k:Int):List Value:=[iv s.tx,.slice a s.now.rules.length ca,.slice b s.now.zones.length cb,.slice c s.now.links.length cc,.slice d s.was.rules.length cd,.slice e s.was.zones.length ce,.slice f s.was.links.length cf,iv s.cur,.slice va s.vs.length cv,.slice ia s.ix.length ci,iv m,iv k]
def zeroS:StoreD:=⟨0,⟨[],[],[]⟩,⟨[],[],[]⟩,0,[],[]⟩
theorem jn5(s:StoreD)(v v2:Value)(w:World)(hv:Jd w v s)(eQ:Jd w v2 s)(hm:Zr s):
  Cl 8 #[v,v2] w fun e w'=>e=.returned (.bool true)/\Bw w w':=by
 obtain⟨a,b,c,d,e,f,va,ia,ca,cb,cc,cd,ce,cf,cv,ci,rfl,hN,hW,hV,hX,_,_⟩:=hv.form
 obtain⟨a2,b2,c2,d2,e2,f2,qa,q9,fJ,l4,lg,qj,qk,qI,uc,ub,rfl,pP,sq,FC,BJ,_,_⟩:=eQ.form
 obtain⟨tx,now,was,cur,vs,ix⟩:=s
 obtain⟨m1,m2,m3,m4,m5⟩:=hm
 simp only at *
 have ag:Bw w ((w.alloc (.cells (stA ⟨tx,now,was,cur,vs,ix⟩ a b c d e f va ia ca cb cc cd ce cf cv ci).toArray 41)).alloc (.cells (stA ⟨tx,now,was,cur,vs,ix⟩ a2 b2 c2 d2 e2 f2 qa q9 fJ l4 lg qj qk qI uc ub).toArray 41)):=(qal _ _).alloc (by simp) _
 have A0:Zh ((w.alloc (.cells (stA ⟨tx,now,was,cur,vs,ix⟩ a b c d e f va ia ca cb cc cd ce cf cv ci).toArray 41)).alloc (.cells (stA ⟨tx,now,was,cur,vs,ix⟩ a2 b2 c2 d2 e2 f2 qa q9 fJ l4 lg qj qk qI uc ub).toArray 41)) w.heap.size (stA ⟨tx,now,was,cur,vs,ix⟩ a b c d e f va ia ca cb cc cd ce cf cv ci):=(Zh.new w (stA ⟨tx,now,was,cur,vs,ix⟩ a b c d e f va ia ca cb cc cd ce cf cv ci) 41).below (qal _ _)
 have B0:Zh ((w.alloc (.cells (stA ⟨tx,now,was,cur,vs,ix⟩ a b c d e f va ia ca cb cc cd ce cf cv ci).toArray 41)).alloc (.cells (stA ⟨tx,now,was,cur,vs,ix⟩ a2 b2 c2 d2 e2 f2 qa q9 fJ l4 lg qj qk qI uc ub).toArray 41)) (w.heap.size+1) (stA ⟨tx,now,was,cur,vs,ix⟩ a2 b2 c2 d2 e2 f2 qa q9 fJ l4 lg qj qk qI uc ub):=by have h:=Zh.new (w.alloc (.cells (stA ⟨tx,now,was,cur,vs,ix⟩ a b c d e f va ia ca cb cc cd ce cf cv ci).toArray 41)) (stA ⟨tx,now,was,cur,vs,ix⟩ a2 b2 c2 d2 e2 f2 qa q9 fJ l4 lg qj qk qI uc ub) 41;simpa using h
 have q1:=fun w (h:Zd w (.agg #[.slice a now.rules.length ca,.slice b now.zones.length cb,.slice c now.links.length cc]) now) (h2:Zd w (.agg #[.slice a2 now.rules.length fJ,.slice b2 now.zones.length l4,.slice c2 now.links.length lg]) now)=>jez now _ _ w h h2 m1.sm
 have q2:=fun w (h:Zd w (.agg #[.slice d was.rules.length cd,.slice e was.zones.length ce,.slice f was.links.length cf]) was) (h2:Zd w (.agg #[.slice d2 was.rules.length qj,.slice e2 was.zones.length qk,.slice f2 was.links.length qI]) was)=>jez was _ _ w h h2 m2.sm
 have q3:=fun w (h:Za w va 8 (vs.map VersionD.cs)) (h2:Za w qa 8 (vs.map VersionD.cs))=>jiy vs va qa cv uc w h h2 m4
 have q4:=fun w (h:Za w ia 2 (ix.map EntryD.cs)) (h2:Za w q9 2 (ix.map EntryD.cs))=>jfs ix ia q9 ci ub w h h2 m5
 have HN:=hid hN
 have HW:=hid hW
 have HV:=hid hV
 have HX:=hid hX
 have gK:=hid pP
 have LR:=hid sq
 have Tn:=hid FC
 have LS:=hid BJ
 clear hN hW hV hX pP sq FC BJ hv eQ m1 m2 m3 m4 m5
 have Ub:=A0.c 0 rfl
 have Uc:=A0.c 1 rfl
 have Ud:=A0.c 2 rfl
 have Ue:=A0.c 3 rfl
 have Ul:=B0.c 0 rfl
 have Um:=B0.c 1 rfl
 have Un:=B0.c 2 rfl
 have Uo:=B0.c 3 rfl
 unfold Cl;go_in
 go_wp2_with fail
 refine(q1 _ (HN.out.below ag) (gK.out.below ag)).mono ?_
 rintro e w1 ⟨rfl,hb1⟩
 have aj:=qtr ag hb1
 have A1:=A0.below hb1
 have B1:=B0.below hb1
 clear Ub Uc Ud Ue
 clear Ul Um Un Uo
 clear A0 B0 ag hb1 q1
 have Uf:=A1.c 4 rfl
 have Ug:=A1.c 5 rfl
 have Uh:=A1.c 6 rfl
 have Up:=B1.c 4 rfl
 have Uq:=B1.c 5 rfl
 have Ur:=B1.c 6 rfl
 go_wp2_with fail
 refine(q2 _ (HW.out.below aj) (LR.out.below aj)).mono ?_
 rintro e w2 ⟨rfl,ac⟩
 have an:=qtr aj ac
 have A2:=A1.below ac
 have B2:=B1.below ac
 clear Uf Ug Uh
 clear Up Uq Ur
 clear A1 B1 aj ac q2
 have Ui:=A2.c 7 rfl
 have Uj:=A2.c 8 rfl
 have Us:=B2.c 7 rfl
 have Ut:=B2.c 8 rfl
 go_wp2_with fail
 refine(q3 _ (HV.out.below an) (Tn.out.below an)).mono ?_
 rintro e w3 ⟨rfl,ar⟩
 have ax:=qtr an ar
 have A3:=A2.below ar
 have B3:=B2.below ar
 clear Ui Uj
 clear Us Ut
 clear A2 B2 an ar q3
 have Uk:=A3.c 9 rfl
 have Uu:=B3.c 9 rfl
 go_wp2_with fail
 refine(q4 _ (HX.out.below ax) (LS.out.below ax)).mono ?_
 rintro e w4 ⟨rfl,aD⟩
 have aR:=qtr ax aD
 clear A3 B3 ax aD q4 Uk Uu
 go_wp2
 go_ret
 exact⟨rfl,aR⟩
theorem hidL{p:Prop}(h:p):Hid p:=h
def stl(b:Nat):World->List (Nat × Value)->World
 |w,[]=>w
 |w,(j,v)::l=>stl b (w.setCell ⟨b,j,none⟩ v) l
def lst:List Value->List (Nat × Value)->List Value
 |l,[]=>l
 |l,(j,v)::m=>lst (l.set j v) m
structure SetsOf(b:Nat)(w x:World)(L:List (Nat × Value)):Prop where
 var:∀l,Zh w b l->Zh x b (lst l L)
 oth:∀b2 l,b2≠b->Zh w b2 l->Zh x b2 l
 bel:∀(n:Nat) (u:World),n<=b->Below n u w->Below n u x
 size:x.heap.size=w.heap.size
 frm:∀B,b<B->Jj B w x
 blk:∀k,k≠b->x.heap[k]? =w.heap[k]?
 tch:∀(S:Nat->Prop) (u:World),S b->Zc S u w->Zc S u x
theorem sets_of(b:Nat):∀(L:List (Nat × Value)) (w:World),SetsOf b w (stl b w L) L
 |[],w=>⟨fun _ h=>h,fun _ _ _ h=>h,fun _ _ _ h=>h,rfl,fun B _=>Jj.refl B w,fun _ _=>rfl,fun _ _ _ h=>h⟩
 |(j,v)::L,w=>by
  have h:=sets_of b L (w.setCell (ad b j) v)
  refine⟨fun l0 h0=>h.var _ (h0.set v),fun b2 l0 az h0=>h.oth b2 l0 az (h0.other az v),fun n u hn hb=>h.bel n u hn (bst b j v hn hb),h.size.trans (World.size_setCell _ _ _),fun B hB g x hg=>?_,fun k hk=>(h.blk k hk).trans (heap_setCell_other w (ad b j) k v (by simpa using hk)),fun S u hS hT=>h.tch S u hS (hT.set hS (o:=j) v)⟩
  have k:=(Jj.refl B w).set (i:=j) hB v g x hg
  have m:=h.frm B hB g x hg
  exact⟨m.1.trans k.1,m.2.trans k.2⟩
theorem sets_ex(b:Nat)(w:World)(L:List (Nat × Value)):∃x,stl b w L=x/\SetsOf b w x L:=⟨_,rfl,sets_of b L w⟩
theorem Zh.tenF{w:World}{b:Nat}{p0 p1 p2 p3 p4 p5 p6 p7 p8 p9:Value}{l:List Value}(h:Zh w b (p0::p1::p2::p3::p4::p5::p6::p7::p8::p9::l)):w.frozen? (ad b 0)=false/\w.frozen? (ad b 1)=false/\w.frozen? (ad b 2)=false/\w.frozen? (ad b 3)=false/\w.frozen? (ad b 4)=false/\w.frozen? (ad b 5)=false/\w.frozen? (ad b 6)=false/\w.frozen? (ad b 7)=false/\w.frozen? (ad b 8)=false/\w.frozen? (ad b 9)=false:=⟨h.f 0 rfl,h.f 1 rfl,h.f 2 rfl,h.f 3 rfl,h.f 4 rfl,h.f 5 rfl,h.f 6 rfl,h.f 7 rfl,h.f 8 rfl,h.f 9 rfl⟩
theorem Zh.twC{w:World}{g:Nat}{p0 p1 p2 p3 p4 p5 p6 p7 p8 p9 p10 p11:Value}(h:Zh w g [p0,p1,p2,p3,p4,p5,p6,p7,p8,p9,p10,p11]):w.cell? (ad g 0)=some p0/\w.cell? (ad g 1)=some p1/\w.cell? (ad g 2)=some p2/\w.cell? (ad g 3)=some p3/\w.cell? (ad g 4)=some p4/\w.cell? (ad g 5)=some p5/\w.cell? (ad g 6)=some p6/\w.cell? (ad g 7)=some p7/\w.cell? (ad g 8)=some p8/\w.cell? (ad g 9)=some p9/\w.cell? (ad g 10)=some p10/\w.cell? (ad g 11)=some p11:=⟨h.c 0 rfl,h.c 1 rfl,h.c 2 rfl,h.c 3 rfl,h.c 4 rfl,h.c 5 rfl,h.c 6 rfl,h.c 7 rfl,h.c 8 rfl,h.c 9 rfl,h.c 10 rfl,h.c 11 rfl⟩
theorem Zh.twF{w:World}{g:Nat}{p0 p1 p2 p3 p4 p5 p6 p7 p8 p9 p10 p11:Value}(h:Zh w g [p0,p1,p2,p3,p4,p5,p6,p7,p8,p9,p10,p11]):w.frozen? (ad g 0)=false/\w.frozen? (ad g 1)=false/\w.frozen? (ad g 2)=false/\w.frozen? (ad g 3)=false/\w.frozen? (ad g 4)=false/\w.frozen? (ad g 5)=false/\w.frozen? (ad g 6)=false/\w.frozen? (ad g 7)=false/\w.frozen? (ad g 8)=false/\w.frozen? (ad g 9)=false/\w.frozen? (ad g 10)=false/\w.frozen? (ad g 11)=false:=⟨h.f 0 rfl,h.f 1 rfl,h.f 2 rfl,h.f 3 rfl,h.f 4 rfl,h.f 5 rfl,h.f 6 rfl,h.f 7 rfl,h.f 8 rfl,h.f 9 rfl,h.f 10 rfl,h.f 11 rfl⟩
theorem Zh.fin{w:World}{g:Nat}{p0 p1 p2 p3 p4 p5 p6 p7 p8 p9 p10 p11:Value}(h:Zh w g [p0,p1,p2,p3,p4,p5,p6,p7,p8,p9,p10,p11])(v0 v1 v2 v3 v4 v5 v6 v7 v8 v9 lz lH:Value):∃W,(((((((((((w.setCell (ad g 0) v0).setCell (ad g 1) v1).setCell (ad g 2) v2).setCell (ad g 3) v3).setCell (ad g 4) v4).setCell (ad g 5) v5).setCell (ad g 6) v6).setCell (ad g 7) v7).setCell (ad g 8) v8).setCell (ad g 9) v9).setCell (ad g 10) lz).setCell (ad g 11) lH=W/\(W.cell? (ad g 0)=some v0/\W.cell? (ad g 1)=some v1/\W.cell? (ad g 2)=some v2/\W.cell? (ad g 3)=some v3/\W.cell? (ad g 4)=some v4/\W.cell? (ad g 5)=some v5/\W.cell? (ad g 6)=some v6/\W.cell? (ad g 7)=some v7/\W.cell? (ad g 8)=some v8/\W.cell? (ad g 9)=some v9/\W.cell? (ad g 10)=some lz/\W.cell? (ad g 11)=some lH)/\Zc (fun b=>b=g) w W/\W.heap.size=w.heap.size/\∀(n:Nat) (u:World),n<=g->Below n u w->Below n u W:=
 ⟨_,rfl,Zh.twC (p0:=v0) (p1:=v1) (p2:=v2) (p3:=v3) (p4:=v4) (p5:=v5) (p6:=v6) (p7:=v7) (p8:=v8) (p9:=v9) (p10:=lz) (p11:=lH) ((((((((((((h.set (j:=0) v0).set (j:=1) v1).set (j:=2) v2).set (j:=3) v3).set (j:=4) v4).set (j:=5) v5).set (j:=6) v6).set (j:=7) v7).set (j:=8) v8).set (j:=9) v9).set (j:=10) lz).set (j:=11) lH),(((((((((((((Zc.refl (fun b=>b=g) w).set (show g=g from rfl) (o:=0) v0).set (show g=g from rfl) (o:=1) v1).set (show g=g from rfl) (o:=2) v2).set (show g=g from rfl) (o:=3) v3).set (show g=g from rfl) (o:=4) v4).set (show g=g from rfl) (o:=5) v5).set (show g=g from rfl) (o:=6) v6).set (show g=g from rfl) (o:=7) v7).set (show g=g from rfl) (o:=8) v8).set (show g=g from rfl) (o:=9) v9).set (show g=g from rfl) (o:=10) lz).set (show g=g from rfl) (o:=11) lH),by simp[World.size_setCell],fun n u hn hb=>(bst g 11 lH hn (bst g 10 lz hn (bst g 9 v9 hn (bst g 8 v8 hn (bst g 7 v7 hn (bst g 6 v6 hn (bst g 5 v5 hn (bst g 4 v4 hn (bst g 3 v3 hn (bst g 2 v2 hn (bst g 1 v1 hn (bst g 0 v0 hn hb))))))))))))⟩
theorem Zh.finZ{w:World}{g:Nat}{p0 p1 p2 p3 p4 p5 p6 p7 p8 p9 p10 p11:Value}(h:Zh w g [p0,p1,p2,p3,p4,p5,p6,p7,p8,p9,p10,p11])(c:Int):∃W,(((((((((((w.setCell (ad g 0) (iv 0)).setCell (ad g 1) nS).setCell (ad g 2) nS).setCell (ad g 3) nS).setCell (ad g 4) nS).setCell (ad g 5) nS).setCell (ad g 6) nS).setCell (ad g 7) (iv 0)).setCell (ad g 8) nS).setCell (ad g 9) nS).setCell (ad g 10) (iv 0)).setCell (ad g 11) (iv c)=W/\(W.cell? (ad g 0)=some (iv 0)/\W.cell? (ad g 1)=some nS/\W.cell? (ad g 2)=some nS/\W.cell? (ad g 3)=some nS/\W.cell? (ad g 4)=some nS/\W.cell? (ad g 5)=some nS/\W.cell? (ad g 6)=some nS/\W.cell? (ad g 7)=some (iv 0)/\W.cell? (ad g 8)=some nS/\W.cell? (ad g 9)=some nS/\W.cell? (ad g 10)=some (iv 0)/\W.cell? (ad g 11)=some (iv c))/\Zc (fun b=>b=g) w W/\W.heap.size=w.heap.size/\∀(n:Nat) (u:World),n<=g->Below n u w->Below n u W:=h.fin (iv 0) nS nS nS nS nS nS (iv 0) nS nS (iv 0) (iv c)
theorem two_alloc(w:World)(L M:List Value)(t u:TypeId):∃x,(w.alloc (.cells L.toArray t)).alloc (.cells M.toArray u)=x/\Bw w x/\Zh x w.heap.size L/\Zh x (w.heap.size+1) M/\x.heap.size=w.heap.size+1+1:=by
 refine⟨_,rfl,(qal _ _).alloc (by simp) _,(Zh.new w L t).below (qal _ _),?_,by simp⟩
 have h:=Zh.new (w.alloc (.cells L.toArray t)) M u
 rw[World.size_alloc]at h
 exact h
theorem three_sto(w:World)(A B C:List Value)(t u v:TypeId):∃x,((w.alloc (.cells A.toArray t)).alloc (.cells B.toArray u)).alloc (.cells C.toArray v)=x/\Bw w x/\Zh x w.heap.size A/\Zh x (w.heap.size+1) B/\Zh x (w.heap.size+1+1) C/\x.heap.size=w.heap.size+1+1+1:=by
 obtain⟨y,hy,h1,h2,h3,h4⟩:=two_alloc w A B t u
 have b:=qal y (.cells C.toArray v)
 have h:=Zh.new y C v
 rw[h4]at h
 exact⟨_,rfl,by rw[hy];exact qtr h1 b,by rw[hy];exact h2.below b,by rw[hy];exact h3.below b,by rw[hy];exact h,by rw[hy];simp[h4]⟩
theorem jnu(s:StoreD)(v:Value)(w:World)(hv:Jd w v s)(hm:Zr s):
  Cl 6 #[v] w fun e w'=>∃v',e=.returned v'/\OwnSt w' w.heap.size v' s/\Bw w w':=by
 obtain⟨a,b,c,d,e,f,va,ia,ca,cb,cc,cd,ce,cf,cv,ci,rfl,hN,hW,hV,hX,_,_⟩:=hv.form
 obtain⟨tx,now,was,cur,vs,ix⟩:=s
 obtain⟨m1,m2,m3,m4,m5⟩:=hm
 simp only at *
 obtain⟨wB,gn,ag,A0,R0,O0,aG⟩:=three_sto w (stA ⟨tx,now,was,cur,vs,ix⟩ a b c d e f va ia ca cb cc cd ce cf cv ci) [iv 0,nS,nS,nS,nS,nS,nS,iv 0,nS,nS] [iv tx,nS,nS,nS,nS,nS,nS,iv 0,nS,nS] 30 41 41
 have q1:=fun w (h:Zd w (.agg #[.slice a now.rules.length ca,.slice b now.zones.length cb,.slice c now.links.length cc]) now)=>jex now _ w h m1.sm
 have q2:=fun w (h:Zd w (.agg #[.slice d was.rules.length cd,.slice e was.zones.length ce,.slice f was.links.length cf]) was)=>jex was _ w h m2.sm
 have q3:=fun w (h:Za w va 8 (vs.map VersionD.cs))=>jiu vs va cv w h m4
 have q4:=fun w (h:Za w ia 2 (ix.map EntryD.cs))=>jl6 ix ia ci w h m5
 have HN:=hidL hN
 have HW:=hidL hW
 have HV:=hidL hV
 have HX:=hidL hX
 clear m1 m2 m3 hv hN hW hV hX
 unfold Cl;go_in
 have a1:=A0.c 1 rfl
 have a2:=A0.c 2 rfl
 have a3:=A0.c 3 rfl
 go_wp2_with fail
 clear gn a1 a2 a3
 refine(q1 _ (HN.out.below ag)).mono ?_
 rintro e w1 ⟨v1,rfl,aS,bg⟩
 obtain⟨ga,gb,gc,ej,_⟩:=aS.form
 subst ej
 rw[aG]at aS
 obtain⟨M,aS,hM⟩:=aS.bnd
 have aj:=qtr ag bg
 have A1:=A0.below bg
 have R1:=R0.below bg
 have O1:=O0.below bg
 have bU:w.heap.size+1+1+1<=w1.heap.size:=by have:=bg.size;omega
 clear A0 R0 O0 ag bg aG
 have a4:=A1.c 4 rfl
 have a5:=A1.c 5 rfl
 have a6:=A1.c 6 rfl
 have o1:=O1.c 1 rfl
 have TO:=O1.f 1 rfl
 have o2:=O1.c 2 rfl
 have TP:=O1.f 2 rfl
 have o3:=O1.c 3 rfl
 have TQ:=O1.f 3 rfl
 go_wp2_with fail
 clear a4 a5 a6 o1 TO o2 TP o3 TQ
 obtain⟨wC,hx,K⟩:=sets_ex (w.heap.size+1+1) w1 [(1,so ga now.rules.length now.rules.length),(2,so gb now.zones.length now.zones.length),(3,so gc now.links.length now.links.length)]
 simp only[stl]at hx
 rw[hx]
 have O2:=K.var _ O1
 have A2:=K.oth _ _ (by omega) A1
 have R2:=K.oth _ _ (by omega) R1
 have an:=K.bel _ _ (by omega) aj
 have aF:=K.size
 replace aS:=aS.from (K.frm (w.heap.size+1+1+1) (by omega)) (nlr _)
 clear A1 R1 O1 aj hx K
 refine(q2 _ (HW.out.below an)).mono ?_
 rintro e w2 ⟨v2,rfl,bX,ac⟩
 obtain⟨gd,ge,gf,eQ,bR,_⟩:=bX.form
 subst eQ
 have K2:M<=gd/\M<=ge/\M<=gf:=by omega
 have E7:=ac.size
 replace bX:=bX.mono (show w.heap.size+1+1+1<=wC.heap.size by omega)
 have ax:=qtr an ac
 have A3:=A2.below ac
 have R3:=R2.below ac
 have O3:=O2.below ac
 have kN:w.heap.size+1+1+1<=w2.heap.size:=by omega
 replace aS:=aS.below ac
 clear A2 R2 O2 an ac E7 aF hM bR bU
 have a7:=A3.c 7 rfl
 have a8:=A3.c 8 rfl
 have o4:=O3.c 4 rfl
 have TR:=O3.f 4 rfl
 have o5:=O3.c 5 rfl
 have TS:=O3.f 5 rfl
 have o6:=O3.c 6 rfl
 have TU:=O3.f 6 rfl
 have o7:=O3.c 7 rfl
 have TV:=O3.f 7 rfl
 go_wp2_with fail
 clear a7 a8 o4 TR o5 TS o6 TU o7 TV
 obtain⟨wD,hx,K⟩:=sets_ex (w.heap.size+1+1) w2 [(4,so gd was.rules.length was.rules.length),(5,so ge was.zones.length was.zones.length),(6,so gf was.links.length was.links.length),(7,iv cur)]
 simp only[stl]at hx
 rw[hx]
 have O4:=K.var _ O3
 have A4:=K.oth _ _ (by omega) A3
 have R4:=K.oth _ _ (by omega) R3
 have aR:=K.bel _ _ (by omega) ax
 have TG:=K.size
 replace aS:=aS.from (K.frm (w.heap.size+1+1+1) (by omega)) (nlr _)
 replace bX:=bX.from (K.frm (w.heap.size+1+1+1) (by omega)) (nlr _)
 clear A3 R3 O3 ax hx K
 obtain⟨gv,G4⟩:=qeb wD.heap.size
 refine(q3 _ (HV.out.below aR)).mono ?_
 rintro e w3 ⟨rfl,sv,rv,aD⟩
 rw[G4]at sv rv
 have Tt:w.heap.size+1+1+1<=gv:=by omega
 simp only[G4]
 have bG:=qtr aR aD
 have A5:=A4.below aD
 have R5:=R4.below aD
 have O5:=O4.below aD
 have gG:w.heap.size+1+1+1<=w3.heap.size:=by have:=aD.size;omega
 replace aS:=aS.below aD
 replace bX:=bX.below aD
 clear A4 R4 O4 aR aD TG kN
 have a9:=A5.c 9 rfl
 have o8:=O5.c 8 rfl
 have TX:=O5.f 8 rfl
 clear G4
 go_wp2_with fail
 clear a9 o8 TX
 obtain⟨wE,hx,K⟩:=sets_ex (w.heap.size+1+1) w3 [(8,so gv vs.length vs.length)]
 simp only[stl]at hx
 rw[hx]
 have O6:=K.var _ O5
 have R6:=K.oth _ _ (by omega) R5
 have cp:=K.bel _ _ (by omega) bG
 have TH:=K.size
 have F6:=K.frm (w.heap.size+1+1+1) (by omega)
 replace aS:=aS.from F6 (nlr _)
 replace bX:=bX.from F6 (nlr _)
 replace sv:=sv.from F6 (by omega)
 replace rv:=rv.from F6 (by omega)
 clear A5 R5 O5 bG hx K F6
 obtain⟨gx,Ej⟩:=qeb wE.heap.size
 refine(q4 _ (HX.out.below cp)).mono ?_
 rintro e w4 ⟨rfl,sx,rx,hb6⟩
 rw[Ej]at sx rx
 have Tu:w.heap.size+1+1+1<=gx:=by omega
 simp only[Ej]
 have dz:=qtr cp hb6
 have R7:=R6.below hb6
 have O7:=O6.below hb6
 replace aS:=aS.below hb6
 replace bX:=bX.below hb6
 replace sv:=sv.below hb6
 replace rv:=rv.below hb6
 clear R6 O6 cp hb6 TH gG Ej
 have o9:=O7.c 9 rfl
 have UR:=O7.f 9 rfl
 obtain⟨wF,hx,K⟩:=sets_ex (w.heap.size+1+1) w4 [(9,so gx ix.length ix.length)]
 simp only[stl]at hx
 have OZ:=K.var _ O7
 have RZ:=K.oth _ _ (by omega) R7
 obtain⟨wG,n8,ve⟩:=sets_ex (w.heap.size+1) wF [(0,iv tx),(1,so ga now.rules.length now.rules.length),(2,so gb now.zones.length now.zones.length),(3,so gc now.links.length now.links.length),(4,so gd was.rules.length was.rules.length),(5,so ge was.zones.length was.zones.length),(6,so gf was.links.length was.links.length),(7,iv cur),(8,so gv vs.length vs.length),(9,so gx ix.length ix.length)]
 simp only[stl]at n8
 obtain⟨z0,z1,z2,z3,z4,z5,z6,z7,z8,z9⟩:=OZ.ten
 obtain⟨y0,y1,y2,y3,y4,y5,y6,y7,y8,y9⟩:=RZ.ten
 obtain⟨Ns,Nt,Nu,Nv,Nw,Nx,Ny,Nz,NA,NB⟩:=RZ.tenF
 have RF:=ve.var _ RZ
 have yA:=hidL (ve.bel _ _ (by omega) (K.bel _ _ (by omega) dz))
 have FZ:Jj (w.heap.size+1+1+1) w4 wG:=fun g x hg=>⟨(ve.frm (w.heap.size+1+1+1) (by omega) g x hg).1.trans (K.frm (w.heap.size+1+1+1) (by omega) g x hg).1,(ve.frm (w.heap.size+1+1+1) (by omega) g x hg).2.trans (K.frm (w.heap.size+1+1+1) (by omega) g x hg).2⟩
 have Tl:Hid (OwnSt wG w.heap.size (.agg (stA ⟨tx,now,was,cur,vs,ix⟩ (some (ad ga 0)) (some (ad gb 0)) (some (ad gc 0)) (some (ad gd 0)) (some (ad ge 0)) (some (ad gf 0)) (some (ad gv 0)) (some (ad gx 0)) now.rules.length now.zones.length now.links.length was.rules.length was.zones.length was.links.length vs.length ix.length).toArray) ⟨tx,now,was,cur,vs,ix⟩):=⟨ga,gb,gc,gd,ge,gf,gv,gx,rfl,(aS.own.from FZ (nlr _)).mono (by omega),(bX.from FZ (nlr _)).mono (by omega),⟨by omega,sv.from FZ (by omega),rv.from FZ (by omega)⟩,⟨by omega,sx.from FZ (by omega),rx.from FZ (by omega)⟩,M,(aS.upto.from FZ (nlr _)).mono (by omega),K2⟩
 obtain⟨t0,t1,t2,t3,t4,t5,t6,t7,t8,t9⟩:=RF.ten
 clear FZ RF OZ RZ aS bX sv rv sx rx R7 O7 dz Tt Tu K ve
 go_wp2
 exact bpr (v:=.agg (stA ⟨tx,now,was,cur,vs,ix⟩ (some (ad ga 0)) (some (ad gb 0)) (some (ad gc 0)) (some (ad gd 0)) (some (ad ge 0)) (some (ad gf 0)) (some (ad gv 0)) (some (ad gx 0)) now.rules.length now.zones.length now.links.length was.rules.length was.zones.length was.links.length vs.length ix.length).toArray) (by simp[results,Tryz.results6,go_sem,t0,t1,t2,t3,t4,t5,t6,t7,t8,t9]) rfl ⟨_,rfl,Tl.out,yA.out⟩
