import Derived.Test.YtbbgeelamjmgaaaGreatDoorSBd
import Derived.Test.YtbbgeelamjmgaaaGreatDoorMarkPd
import Derived.Lib.SmallJoins
set_option maxHeartbeats 0
set_option linter.unusedSimpArgs false
open Go.RowKit Go.Sort
namespace Go.Proofs.YtbbgeelamjmgaaaGreatDoor
variable{b g j n:Nat}{l:List Value}{p0 p1 p10 p11 p2 p3 p4 p5 p6 p7 p8 p9:Value}{p:Prop}
abbrev stA(s:ZP)(a b c d e f va ia:Option Addr)(ca cb cc cd ce cf cv ci:Nat):List Value:=[J s.tx,U a s.YT.Vv.length ca,U b s.YT.YU.length cb,U c s.YT.YW.length cc,U d s.YS.Vv.length cd,U e s.YS.YU.length ce,U f s.YS.YW.length cf,J s.cur,U va s.vs.length cv,U ia s.ix.length ci]
def Zh(w:World)(b:Nat)(l:List Value):Prop:=∀(i:Nat) u,l[i]? =some u->w.cell? (O b i)=some u/\w.frozen? (O b i)=false
theorem Zh.below{w w':World}(h:Zh w b l)(hb:Bw w w'):Zh w' b l:=λi u hu=>by
 have⟨h1,h2⟩:=h i u hu;exact⟨YR hb h1,(AZ hb h1 h2)⟩
theorem Zh.set{w:World}(h:Zh w b l)(v:Value):Zh (w.setCell (O b j) v) b (l.set j v):=λi u hu=>by
 rw[List.getElem?_set]at hu;split at hu
 .rename_i e
  subst e;split at hu
  .rename_i hl
   obtain rfl:=Z9 hu;have⟨x,hx⟩:=DV hl;have⟨h1,h2⟩:=h j x hx;exact⟨Bf _ _ _ h1,by rw[World.frozen?_setCell];exact h2⟩
  .cases hu
 .rename_i e
  have⟨h1,h2⟩:=h i u hu;exact⟨by rw[ZT _ _ _ _ (by intro h;injection h with _ h;exact e h)];exact h1,by rw[World.frozen?_setCell];exact h2⟩
theorem Zh.other{w:World}{b2:Nat}(h:Zh w b l)(az:b≠b2)(v:Value):Zh (w.setCell (O b2 j) v) b l:=λi u hu=>by
 have⟨h1,h2⟩:=h i u hu;exact⟨by rw[ZT _ _ _ _ (jcv (Ne.symm az))];exact h1,by rw[World.frozen?_setCell];exact h2⟩
theorem Zh.new(w:World)(l:List Value)(t:TypeId):Zh (w.alloc (G l.toArray t)) w.heap.size l:=λi u hu=>by
 have h:=Ka w l t i u hu;rw[vby,Nat.zero_add]at h;have hh:=heap_alloc_new w (G l.toArray t);exact⟨h,by unfold World.frozen?;rw[hh];simp⟩
theorem bst{w w2:World}(g i:Nat)(v:Value)(hg:n<=g)(h:Below n w w2):Below n w (w2.setCell (O g i) v):=h.setCell hg v
theorem Zh.c{w:World}(h:Zh w b l)(i:Nat){u:Value}(hu:l[i]? =some u):w.cell? (O b i)=some u:=(h i u hu).1
theorem Zh.ZS{w:World}(h:Zh w b (p0::p1::p2::p3::p4::p5::p6::p7::p8::p9::l)):w.cell? (O b 0)=some p0/\w.cell? (O b 1)=some p1/\w.cell? (O b 2)=some p2/\w.cell? (O b 3)=some p3/\w.cell? (O b 4)=some p4/\w.cell? (O b 5)=some p5/\w.cell? (O b 6)=some p6/\w.cell? (O b 7)=some p7/\w.cell? (O b 8)=some p8/\w.cell? (O b 9)=some p9:=⟨h.c 0 rfl,h.c 1 rfl,h.c 2 rfl,h.c 3 rfl,h.c 4 rfl,h.c 5 rfl,h.c 6 rfl,h.c 7 rfl,h.c 8 rfl,h.c 9 rfl⟩
theorem Zh.f{w:World}(h:Zh w b l)(i:Nat){u:Value}(hu:l[i]? =some u):w.frozen? (O b i)=false:=(h i u hu).2
theorem hidL(h:p):Hid p:=h
def stl(b:Nat):World->List (Nat × Value)->World
 |w,[]=>w
 |w,(j,v)::l=>stl b (w.setCell ⟨b,j,none⟩ v) l
def lst:List Value->List (Nat × Value)->List Value
 |l,[]=>l
 |l,(j,v)::m=>lst (l.set j v) m
structure vdl(b:Nat)(w x:World)(L:List (Nat × Value)):Prop where
 var:∀l,Zh w b l->Zh x b (lst l L)
 oth:∀b2 l,b2≠b->Zh w b2 l->Zh x b2 l
 ZB:∀(n:Nat) (u:World),n<=b->Below n u w->Below n u x
 size:x.heap.size=w.heap.size
 frm:∀B,b<B->Jj B w x
 blk:∀k,k≠b->x.heap[k]? =w.heap[k]?
 tch:∀(S:Nat->Prop) (u:World),S b->Zc S u w->Zc S u x
theorem vf6(b:Nat):∀(L:List (Nat × Value)) (w:World),vdl b w (stl b w L) L
 |[],w=>⟨λ_ h=>h,λ_ _ _ h=>h,λ_ _ _ h=>h,rfl,λB _=>Jj.refl B w,λ_ _=>rfl,λ_ _ _ h=>h⟩
 |(j,v)::L,w=>by
  have h:=vf6 b L (w.setCell (O b j) v);refine⟨λl0 h0=>h.var _ (h0.set v),λb2 l0 az h0=>h.oth b2 l0 az (h0.other az v),λn u hn hb=>h.ZB n u hn (bst b j v hn hb),h.size.trans (World.size_setCell _ _ _),λB hB g x hg=>?_,λk hk=>(h.blk k hk).trans (heap_setCell_other w (O b j) k v (by simpa using hk)),λS u hS hT=>h.tch S u hS (hT.set hS (o:=j) v)⟩;have k:=(Jj.refl B w).set (i:=j) hB v g x hg;have m:=h.frm B hB g x hg;exact⟨m.1.trans k.1,m.2.trans k.2⟩
theorem vaQ(b:Nat)(w:World)(L:List (Nat × Value)):∃x,stl b w L=x/\vdl b w x L:=⟨_,rfl,vf6 b L w⟩
theorem Zh.vaV{w:World}(h:Zh w b (p0::p1::p2::p3::p4::p5::p6::p7::p8::p9::l)):w.frozen? (O b 0)=false/\w.frozen? (O b 1)=false/\w.frozen? (O b 2)=false/\w.frozen? (O b 3)=false/\w.frozen? (O b 4)=false/\w.frozen? (O b 5)=false/\w.frozen? (O b 6)=false/\w.frozen? (O b 7)=false/\w.frozen? (O b 8)=false/\w.frozen? (O b 9)=false:=⟨h.f 0 rfl,h.f 1 rfl,h.f 2 rfl,h.f 3 rfl,h.f 4 rfl,h.f 5 rfl,h.f 6 rfl,h.f 7 rfl,h.f 8 rfl,h.f 9 rfl⟩
theorem Zh.Nc{w:World}(h:Zh w g [p0,p1,p2,p3,p4,p5,p6,p7,p8,p9,p10,p11]):w.cell? (O g 0)=some p0/\w.cell? (O g 1)=some p1/\w.cell? (O g 2)=some p2/\w.cell? (O g 3)=some p3/\w.cell? (O g 4)=some p4/\w.cell? (O g 5)=some p5/\w.cell? (O g 6)=some p6/\w.cell? (O g 7)=some p7/\w.cell? (O g 8)=some p8/\w.cell? (O g 9)=some p9/\w.cell? (O g 10)=some p10/\w.cell? (O g 11)=some p11:=⟨h.c 0 rfl,h.c 1 rfl,h.c 2 rfl,h.c 3 rfl,h.c 4 rfl,h.c 5 rfl,h.c 6 rfl,h.c 7 rfl,h.c 8 rfl,h.c 9 rfl,h.c 10 rfl,h.c 11 rfl⟩
theorem Zh.Od{w:World}(h:Zh w g [p0,p1,p2,p3,p4,p5,p6,p7,p8,p9,p10,p11]):w.frozen? (O g 0)=false/\w.frozen? (O g 1)=false/\w.frozen? (O g 2)=false/\w.frozen? (O g 3)=false/\w.frozen? (O g 4)=false/\w.frozen? (O g 5)=false/\w.frozen? (O g 6)=false/\w.frozen? (O g 7)=false/\w.frozen? (O g 8)=false/\w.frozen? (O g 9)=false/\w.frozen? (O g 10)=false/\w.frozen? (O g 11)=false:=⟨h.f 0 rfl,h.f 1 rfl,h.f 2 rfl,h.f 3 rfl,h.f 4 rfl,h.f 5 rfl,h.f 6 rfl,h.f 7 rfl,h.f 8 rfl,h.f 9 rfl,h.f 10 rfl,h.f 11 rfl⟩
theorem Zh.fin{w:World}(h:Zh w g [p0,p1,p2,p3,p4,p5,p6,p7,p8,p9,p10,p11])(v0 v1 v2 v3 v4 v5 v6 v7 v8 v9 v10 v11:Value):∃W,(((((((((((w.setCell (O g 0) v0).setCell (O g 1) v1).setCell (O g 2) v2).setCell (O g 3) v3).setCell (O g 4) v4).setCell (O g 5) v5).setCell (O g 6) v6).setCell (O g 7) v7).setCell (O g 8) v8).setCell (O g 9) v9).setCell (O g 10) v10).setCell (O g 11) v11=W/\(W.cell? (O g 0)=some v0/\W.cell? (O g 1)=some v1/\W.cell? (O g 2)=some v2/\W.cell? (O g 3)=some v3/\W.cell? (O g 4)=some v4/\W.cell? (O g 5)=some v5/\W.cell? (O g 6)=some v6/\W.cell? (O g 7)=some v7/\W.cell? (O g 8)=some v8/\W.cell? (O g 9)=some v9/\W.cell? (O g 10)=some v10/\W.cell? (O g 11)=some v11)/\Zc (λb=>b=g) w W/\W.heap.size=w.heap.size/\∀(n:Nat) (u:World),n<=g->Below n u w->Below n u W:=
 ⟨_,rfl,Zh.Nc (p0:=v0) (p1:=v1) (p2:=v2) (p3:=v3) (p4:=v4) (p5:=v5) (p6:=v6) (p7:=v7) (p8:=v8) (p9:=v9) (p10:=v10) (p11:=v11) ((((((((((((h.set (j:=0) v0).set (j:=1) v1).set (j:=2) v2).set (j:=3) v3).set (j:=4) v4).set (j:=5) v5).set (j:=6) v6).set (j:=7) v7).set (j:=8) v8).set (j:=9) v9).set (j:=10) v10).set (j:=11) v11),(((((((((((((Zc.refl (λb=>b=g) w).set (show g=g from rfl) (o:=0) v0).set (show g=g from rfl) (o:=1) v1).set (show g=g from rfl) (o:=2) v2).set (show g=g from rfl) (o:=3) v3).set (show g=g from rfl) (o:=4) v4).set (show g=g from rfl) (o:=5) v5).set (show g=g from rfl) (o:=6) v6).set (show g=g from rfl) (o:=7) v7).set (show g=g from rfl) (o:=8) v8).set (show g=g from rfl) (o:=9) v9).set (show g=g from rfl) (o:=10) v10).set (show g=g from rfl) (o:=11) v11),by simp[World.size_setCell],λn u hn hb=>(bst g 11 v11 hn (bst g 10 v10 hn (bst g 9 v9 hn (bst g 8 v8 hn (bst g 7 v7 hn (bst g 6 v6 hn (bst g 5 v5 hn (bst g 4 v4 hn (bst g 3 v3 hn (bst g 2 v2 hn (bst g 1 v1 hn (bst g 0 v0 hn hb))))))))))))⟩
theorem Zh.vaC{w:World}(h:Zh w g [p0,p1,p2,p3,p4,p5,p6,p7,p8,p9,p10,p11])(c:Int):∃W,(((((((((((w.setCell (O g 0) (J 0)).setCell (O g 1) nS).setCell (O g 2) nS).setCell (O g 3) nS).setCell (O g 4) nS).setCell (O g 5) nS).setCell (O g 6) nS).setCell (O g 7) (J 0)).setCell (O g 8) nS).setCell (O g 9) nS).setCell (O g 10) (J 0)).setCell (O g 11) (J c)=W/\(W.cell? (O g 0)=some (J 0)/\W.cell? (O g 1)=some nS/\W.cell? (O g 2)=some nS/\W.cell? (O g 3)=some nS/\W.cell? (O g 4)=some nS/\W.cell? (O g 5)=some nS/\W.cell? (O g 6)=some nS/\W.cell? (O g 7)=some (J 0)/\W.cell? (O g 8)=some nS/\W.cell? (O g 9)=some nS/\W.cell? (O g 10)=some (J 0)/\W.cell? (O g 11)=some (J c))/\Zc (λb=>b=g) w W/\W.heap.size=w.heap.size/\∀(n:Nat) (u:World),n<=g->Below n u w->Below n u W:=h.fin (J 0) nS nS nS nS nS nS (J 0) nS nS (J 0) (J c)
theorem vb3(w:World)(L vMM:List Value)(t u:TypeId):∃x,(w.alloc (G L.toArray t)).alloc (G vMM.toArray u)=x/\Bw w x/\Zh x w.heap.size L/\Zh x (w.heap.size+1) vMM/\x.heap.size=w.heap.size+1+1:=by
 refine⟨_,rfl,(ZA _ _).alloc M _,(Zh.new w L t).below (ZA _ _),?_,M⟩;have h:=Zh.new (w.alloc (G L.toArray t)) vMM u;rw[World.size_alloc]at h;exact h
theorem vdh(w:World)(L:List Value):∃x,(w.alloc (G L.toArray 31)).alloc (G #[J 0,nS,nS,nS,nS,nS,nS,J 0,nS,nS,J 0,J 0] 37)=x/\Bw w x/\Zh x w.heap.size L/\Zh x (w.heap.size+1) [J 0,nS,nS,nS,nS,nS,nS,J 0,nS,nS,J 0,J 0]/\x.heap.size=w.heap.size+1+1:=vb3 w L [J 0,nS,nS,nS,nS,nS,nS,J 0,nS,nS,J 0,J 0] 31 37
theorem veA(w:World)(L vMM:List Value):∃x,((w.alloc (G L.toArray 31)).alloc (G vMM.toArray 33)).alloc (G #[J 0,nS,nS,nS,nS,nS,nS,J 0,nS,nS,J 0,J 0] 37)=x/\Bw w x/\Zh x w.heap.size L/\Zh x (w.heap.size+1) vMM/\Zh x (w.heap.size+1+1) [J 0,nS,nS,nS,nS,nS,nS,J 0,nS,nS,J 0,J 0]/\x.heap.size=w.heap.size+1+1+1:=by
 have⟨y,hy,h1,h2,h3,h4⟩:=vb3 w L vMM 31 33;have b:=ZA y (G #[J 0,nS,nS,nS,nS,nS,nS,J 0,nS,nS,J 0,J 0] 37);have h:=Zh.new y [J 0,nS,nS,nS,nS,nS,nS,J 0,nS,nS,J 0,J 0] 37;rw[h4]at h;exact⟨_,rfl,by rw[hy];exact Zp h1 b,by rw[hy];exact h2.below b,by rw[hy];exact h3.below b,by rw[hy];exact h,by rw[hy];simp[h4]⟩
theorem jlb{α:Type}{cs:α->List Value}{k:Nat}(h:∀x,(cs x).length=k)(L:List α):∀r∈L.map cs,r.length=k:=λr hr=>by
 obtain⟨x,_,rfl⟩:=List.mem_map.1 hr;exact h x
theorem vao{w:World}{base:Nat}{e:TypeId}{q:Nat}{v:Value}{xs:List Value}(h:w.ownsRow base e q v n xs):∃a c,v=U a n c:=by
 rcases h.2 with⟨h1,h2⟩|⟨_,_,_,h1,_⟩
 .exact⟨_,_,by rw[h1,h2]⟩
 .exact⟨_,_,h1⟩
theorem ZE(h:p):Hid p:=h
theorem js0{L:List ZQ}:∀u∈(L.map ZQ.cs).flatten,u.oneCell'=true:=λu hu=>by
 simp only[List.mem_flatten,List.mem_map]at hu;obtain⟨r,⟨t,_,rfl⟩,hr⟩:=hu;simp[ZQ.cs]at hr;rcases hr with rfl|rfl|rfl|rfl|rfl|rfl|rfl|rfl|rfl<;>rfl
theorem jti{L:List vH}:∀u∈(L.map vH.cs).flatten,u.oneCell'=true:=λu hu=>by
 simp only[List.mem_flatten,List.mem_map]at hu;obtain⟨r,⟨t,_,rfl⟩,hr⟩:=hu;simp[vH.cs]at hr;rcases hr with rfl|rfl<;>rfl
theorem jxg{L:List ZH}:∀u∈(L.map ZH.cs).flatten,u.oneCell'=true:=λu hu=>by
 simp only[List.mem_flatten,List.mem_map]at hu;obtain⟨r,⟨t,_,rfl⟩,hr⟩:=hu;simp[ZH.cs]at hr;rcases hr with rfl|rfl|rfl|rfl|rfl|rfl<;>rfl
theorem jup{L:List ZN}:∀u∈(L.map ZN.cs).flatten,u.oneCell'=true:=λu hu=>by
 simp only[List.mem_flatten,List.mem_map]at hu;obtain⟨r,⟨t,_,rfl⟩,hr⟩:=hu;simp[ZN.cs]at hr;rcases hr with rfl|rfl|rfl|rfl|rfl|rfl|rfl|rfl<;>rfl
abbrev Ky(s:ZP)(a b c d e f va ia:Option Addr)(ca cb cc cd ce cf cv ci:Nat)(m k:Int):List Value:=[J s.tx,U a s.YT.Vv.length ca,U b s.YT.YU.length cb,U c s.YT.YW.length cc,U d s.YS.Vv.length cd,U e s.YS.YU.length ce,U f s.YS.YW.length cf,J s.cur,U va s.vs.length cv,U ia s.ix.length ci,J m,J k]
def Gu(t:Int)(g:Bool)(e:Ze):ZN:=⟨t,g,e.id,e.name,e.YZ,e.YV,e.Zz,e.Zu⟩
def De:ZP:=⟨0,⟨[],[],[]⟩,⟨[],[],[]⟩,0,[],[]⟩
section
open Go.ChangeShapes Go.WideShapes Go.ChangeAt Go.RowKit Go.Deep
theorem jfc{α:Type}{P:Nat->α->Prop}:∀n,(∀i,i<n->∃r,P i r)->∃l:List α,l.length=n/\∀i r,l[i]? =some r->P i r:=by
 intro n
 induction n with
 |zero=>intro _;exact⟨[],rfl,λi r h=>by simp at h⟩
 |succ n ih=>
  intro h;have⟨l,hl,hp⟩:=ih λi hi=>h i Q
  have⟨r,hr⟩:=h n Q;refine⟨l++[r],by simp[hl],λi x hx=>?_⟩;rcases Nat.lt_or_ge i l.length with hi|hi
  .rw[N9 hi]at hx;exact hp i x hx
  .rw[List.getElem?_append_right hi]at hx
   have e:i-l.length=0:=by
    rcases Nat.eq_zero_or_pos (i-l.length)with e|e
    .exact e
    .rw[List.getElem?_eq_none RO]at hx;cases hx
   rw[e]at hx;simp at hx;subst hx;have:i=n:=Q;subst this;exact hr
theorem cI:Tryz.prog.cellsOf 2=1:=RG
section
variable {H : Type} {enc : TypeId × Value -> H} {w : World} {bF : Nat -> Bool} {held : Bool}