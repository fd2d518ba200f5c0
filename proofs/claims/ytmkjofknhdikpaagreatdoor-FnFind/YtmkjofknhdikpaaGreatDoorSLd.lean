import Derived.Test.YtmkjofknhdikpaaGreatDoorSBd
import Derived.Test.YtmkjofknhdikpaaGreatDoorMarkPd
import Derived.Lib.SmallJoins
set_option maxHeartbeats 0
set_option linter.unusedSimpArgs false
open Go.RowKit Go.Sort
namespace Go.Proofs.YtmkjofknhdikpaaGreatDoor
variable{b g j n:Nat}{l:List Value}{p0 p1 p10 p11 p2 p3 p4 p5 p6 p7 p8 p9:Value}{p:Prop}
abbrev stA(s:Uo)(a b c d e f va ia:Option Addr)(ca cb cc cd ce cf cv ci:Nat):List Value:=[J s.tx,U a s.Tz.Tw.length ca,U b s.Tz.TC.length cb,U c s.Tz.TG.length cc,U d s.TE.Tw.length cd,U e s.TE.TC.length ce,U f s.TE.TG.length cf,J s.cur,U va s.vs.length cv,U ia s.ix.length ci]
def Zh(w:World)(b:Nat)(l:List Value):Prop:=∀(i:Nat) u,l[i]? =some u->w.cell? (O b i)=some u/\w.frozen? (O b i)=false
theorem Zh.below{w w':World}(h:Zh w b l)(hb:Bw w w'):Zh w' b l:=λi u hu=>by
 have⟨h1,h2⟩:=h i u hu;exact⟨Tx hb h1,(U2 hb h1 h2)⟩
theorem Zh.set{w:World}(h:Zh w b l)(v:Value):Zh (w.setCell (O b j) v) b (l.set j v):=λi u hu=>by
 rw[List.getElem?_set]at hu;split at hu
 .rename_i e
  subst e;split at hu
  .rename_i hl
   obtain rfl:=Uw hu;have⟨x,hx⟩:=Vb hl;have⟨h1,h2⟩:=h j x hx;exact⟨U8 _ _ _ h1,by rw[World.frozen?_setCell];exact h2⟩
  .cases hu
 .rename_i e
  have⟨h1,h2⟩:=h i u hu;exact⟨by rw[Uh _ _ _ _ (by intro h;injection h with _ h;exact e h)];exact h1,by rw[World.frozen?_setCell];exact h2⟩
theorem Zh.other{w:World}{b2:Nat}(h:Zh w b l)(az:b≠b2)(v:Value):Zh (w.setCell (O b2 j) v) b l:=λi u hu=>by
 have⟨h1,h2⟩:=h i u hu;exact⟨by rw[Uh _ _ _ _ (jcv (Ne.symm az))];exact h1,by rw[World.frozen?_setCell];exact h2⟩
theorem Zh.new(w:World)(l:List Value)(t:TypeId):Zh (w.alloc (G l.toArray t)) w.heap.size l:=λi u hu=>by
 have h:=Vy w l t i u hu;rw[Y4,Nat.zero_add]at h;have hh:=heap_alloc_new w (G l.toArray t);exact⟨h,by unfold World.frozen?;rw[hh];simp⟩
theorem VY{w w2:World}(g i:Nat)(v:Value)(hg:n<=g)(h:Below n w w2):Below n w (w2.setCell (O g i) v):=h.setCell hg v
theorem Zh.c{w:World}(h:Zh w b l)(i:Nat){u:Value}(hu:l[i]? =some u):w.cell? (O b i)=some u:=(h i u hu).1
theorem Zh.UA{w:World}(h:Zh w b (p0::p1::p2::p3::p4::p5::p6::p7::p8::p9::l)):w.cell? (O b 0)=some p0/\w.cell? (O b 1)=some p1/\w.cell? (O b 2)=some p2/\w.cell? (O b 3)=some p3/\w.cell? (O b 4)=some p4/\w.cell? (O b 5)=some p5/\w.cell? (O b 6)=some p6/\w.cell? (O b 7)=some p7/\w.cell? (O b 8)=some p8/\w.cell? (O b 9)=some p9:=⟨h.c 0 rfl,h.c 1 rfl,h.c 2 rfl,h.c 3 rfl,h.c 4 rfl,h.c 5 rfl,h.c 6 rfl,h.c 7 rfl,h.c 8 rfl,h.c 9 rfl⟩
theorem Zh.f{w:World}(h:Zh w b l)(i:Nat){u:Value}(hu:l[i]? =some u):w.frozen? (O b i)=false:=(h i u hu).2
theorem hidL(h:p):Hid p:=h
def lH(b:Nat):World->List (Nat × Value)->World
 |w,[]=>w
 |w,(j,v)::l=>lH b (w.setCell ⟨b,j,none⟩ v) l
def lst:List Value->List (Nat × Value)->List Value
 |l,[]=>l
 |l,(j,v)::m=>lst (l.set j v) m
structure vbY(b:Nat)(w x:World)(L:List (Nat × Value)):Prop where
 var:∀l,Zh w b l->Zh x b (lst l L)
 oth:∀b2 l,b2≠b->Zh w b2 l->Zh x b2 l
 TQ:∀(n:Nat) (u:World),n<=b->Below n u w->Below n u x
 size:x.heap.size=w.heap.size
 frm:∀B,b<B->Jj B w x
 blk:∀k,k≠b->x.heap[k]? =w.heap[k]?
 tch:∀(S:Nat->Prop) (u:World),S b->Zc S u w->Zc S u x
theorem vel(b:Nat):∀(L:List (Nat × Value)) (w:World),vbY b w (lH b w L) L
 |[],w=>⟨λ_ h=>h,λ_ _ _ h=>h,λ_ _ _ h=>h,rfl,λB _=>Jj.refl B w,λ_ _=>rfl,λ_ _ _ h=>h⟩
 |(j,v)::L,w=>by
  have h:=vel b L (w.setCell (O b j) v);refine⟨λl0 h0=>h.var _ (h0.set v),λb2 l0 az h0=>h.oth b2 l0 az (h0.other az v),λn u hn hb=>h.TQ n u hn (VY b j v hn hb),h.size.trans (World.size_setCell _ _ _),λB hB g x hg=>?_,λk hk=>(h.blk k hk).trans (heap_setCell_other w (O b j) k v (by simpa using hk)),λS u hS hT=>h.tch S u hS (hT.set hS (o:=j) v)⟩;have k:=(Jj.refl B w).set (i:=j) hB v g x hg;have m:=h.frm B hB g x hg;exact⟨m.1.trans k.1,m.2.trans k.2⟩
theorem ZT(b:Nat)(w:World)(L:List (Nat × Value)):∃x,lH b w L=x/\vbY b w x L:=⟨_,rfl,vel b L w⟩
theorem Zh.XQ{w:World}(h:Zh w b (p0::p1::p2::p3::p4::p5::p6::p7::p8::p9::l)):w.frozen? (O b 0)=false/\w.frozen? (O b 1)=false/\w.frozen? (O b 2)=false/\w.frozen? (O b 3)=false/\w.frozen? (O b 4)=false/\w.frozen? (O b 5)=false/\w.frozen? (O b 6)=false/\w.frozen? (O b 7)=false/\w.frozen? (O b 8)=false/\w.frozen? (O b 9)=false:=⟨h.f 0 rfl,h.f 1 rfl,h.f 2 rfl,h.f 3 rfl,h.f 4 rfl,h.f 5 rfl,h.f 6 rfl,h.f 7 rfl,h.f 8 rfl,h.f 9 rfl⟩
theorem Zh.Wo{w:World}(h:Zh w g [p0,p1,p2,p3,p4,p5,p6,p7,p8,p9,p10,p11]):w.cell? (O g 0)=some p0/\w.cell? (O g 1)=some p1/\w.cell? (O g 2)=some p2/\w.cell? (O g 3)=some p3/\w.cell? (O g 4)=some p4/\w.cell? (O g 5)=some p5/\w.cell? (O g 6)=some p6/\w.cell? (O g 7)=some p7/\w.cell? (O g 8)=some p8/\w.cell? (O g 9)=some p9/\w.cell? (O g 10)=some p10/\w.cell? (O g 11)=some p11:=⟨h.c 0 rfl,h.c 1 rfl,h.c 2 rfl,h.c 3 rfl,h.c 4 rfl,h.c 5 rfl,h.c 6 rfl,h.c 7 rfl,h.c 8 rfl,h.c 9 rfl,h.c 10 rfl,h.c 11 rfl⟩
theorem Zh.WC{w:World}(h:Zh w g [p0,p1,p2,p3,p4,p5,p6,p7,p8,p9,p10,p11]):w.frozen? (O g 0)=false/\w.frozen? (O g 1)=false/\w.frozen? (O g 2)=false/\w.frozen? (O g 3)=false/\w.frozen? (O g 4)=false/\w.frozen? (O g 5)=false/\w.frozen? (O g 6)=false/\w.frozen? (O g 7)=false/\w.frozen? (O g 8)=false/\w.frozen? (O g 9)=false/\w.frozen? (O g 10)=false/\w.frozen? (O g 11)=false:=⟨h.f 0 rfl,h.f 1 rfl,h.f 2 rfl,h.f 3 rfl,h.f 4 rfl,h.f 5 rfl,h.f 6 rfl,h.f 7 rfl,h.f 8 rfl,h.f 9 rfl,h.f 10 rfl,h.f 11 rfl⟩
theorem Zh.fin{w:World}(h:Zh w g [p0,p1,p2,p3,p4,p5,p6,p7,p8,p9,p10,p11])(v0 v1 v2 v3 v4 v5 v6 v7 v8 v9 v10 v11:Value):∃W,(((((((((((w.setCell (O g 0) v0).setCell (O g 1) v1).setCell (O g 2) v2).setCell (O g 3) v3).setCell (O g 4) v4).setCell (O g 5) v5).setCell (O g 6) v6).setCell (O g 7) v7).setCell (O g 8) v8).setCell (O g 9) v9).setCell (O g 10) v10).setCell (O g 11) v11=W/\(W.cell? (O g 0)=some v0/\W.cell? (O g 1)=some v1/\W.cell? (O g 2)=some v2/\W.cell? (O g 3)=some v3/\W.cell? (O g 4)=some v4/\W.cell? (O g 5)=some v5/\W.cell? (O g 6)=some v6/\W.cell? (O g 7)=some v7/\W.cell? (O g 8)=some v8/\W.cell? (O g 9)=some v9/\W.cell? (O g 10)=some v10/\W.cell? (O g 11)=some v11)/\Zc (λb=>b=g) w W/\W.heap.size=w.heap.size/\∀(n:Nat) (u:World),n<=g->Below n u w->Below n u W:=
 ⟨_,rfl,Zh.Wo (p0:=v0) (p1:=v1) (p2:=v2) (p3:=v3) (p4:=v4) (p5:=v5) (p6:=v6) (p7:=v7) (p8:=v8) (p9:=v9) (p10:=v10) (p11:=v11) ((((((((((((h.set (j:=0) v0).set (j:=1) v1).set (j:=2) v2).set (j:=3) v3).set (j:=4) v4).set (j:=5) v5).set (j:=6) v6).set (j:=7) v7).set (j:=8) v8).set (j:=9) v9).set (j:=10) v10).set (j:=11) v11),(((((((((((((Zc.refl (λb=>b=g) w).set (show g=g from rfl) (o:=0) v0).set (show g=g from rfl) (o:=1) v1).set (show g=g from rfl) (o:=2) v2).set (show g=g from rfl) (o:=3) v3).set (show g=g from rfl) (o:=4) v4).set (show g=g from rfl) (o:=5) v5).set (show g=g from rfl) (o:=6) v6).set (show g=g from rfl) (o:=7) v7).set (show g=g from rfl) (o:=8) v8).set (show g=g from rfl) (o:=9) v9).set (show g=g from rfl) (o:=10) v10).set (show g=g from rfl) (o:=11) v11),by simp[World.size_setCell],λn u hn hb=>(VY g 11 v11 hn (VY g 10 v10 hn (VY g 9 v9 hn (VY g 8 v8 hn (VY g 7 v7 hn (VY g 6 v6 hn (VY g 5 v5 hn (VY g 4 v4 hn (VY g 3 v3 hn (VY g 2 v2 hn (VY g 1 v1 hn (VY g 0 v0 hn hb))))))))))))⟩
theorem Zh.Yl{w:World}(h:Zh w g [p0,p1,p2,p3,p4,p5,p6,p7,p8,p9,p10,p11])(c:Int):∃W,(((((((((((w.setCell (O g 0) (J 0)).setCell (O g 1) nS).setCell (O g 2) nS).setCell (O g 3) nS).setCell (O g 4) nS).setCell (O g 5) nS).setCell (O g 6) nS).setCell (O g 7) (J 0)).setCell (O g 8) nS).setCell (O g 9) nS).setCell (O g 10) (J 0)).setCell (O g 11) (J c)=W/\(W.cell? (O g 0)=some (J 0)/\W.cell? (O g 1)=some nS/\W.cell? (O g 2)=some nS/\W.cell? (O g 3)=some nS/\W.cell? (O g 4)=some nS/\W.cell? (O g 5)=some nS/\W.cell? (O g 6)=some nS/\W.cell? (O g 7)=some (J 0)/\W.cell? (O g 8)=some nS/\W.cell? (O g 9)=some nS/\W.cell? (O g 10)=some (J 0)/\W.cell? (O g 11)=some (J c))/\Zc (λb=>b=g) w W/\W.heap.size=w.heap.size/\∀(n:Nat) (u:World),n<=g->Below n u w->Below n u W:=h.fin (J 0) nS nS nS nS nS nS (J 0) nS nS (J 0) (J c)
theorem vco(w:World)(L lH:List Value)(t u:TypeId):∃x,(w.alloc (G L.toArray t)).alloc (G lH.toArray u)=x/\Bw w x/\Zh x w.heap.size L/\Zh x (w.heap.size+1) lH/\x.heap.size=w.heap.size+1+1:=by
 refine⟨_,rfl,(TK _ _).alloc M _,(Zh.new w L t).below (TK _ _),?_,M⟩;have h:=Zh.new (w.alloc (G L.toArray t)) lH u;rw[World.size_alloc]at h;exact h
theorem vcp(w:World)(L:List Value):∃x,(w.alloc (G L.toArray 31)).alloc (G #[J 0,nS,nS,nS,nS,nS,nS,J 0,nS,nS,J 0,J 0] 88)=x/\Bw w x/\Zh x w.heap.size L/\Zh x (w.heap.size+1) [J 0,nS,nS,nS,nS,nS,nS,J 0,nS,nS,J 0,J 0]/\x.heap.size=w.heap.size+1+1:=vco w L [J 0,nS,nS,nS,nS,nS,nS,J 0,nS,nS,J 0,J 0] 31 88
theorem veD(w:World)(L lH:List Value):∃x,((w.alloc (G L.toArray 31)).alloc (G lH.toArray 43)).alloc (G #[J 0,nS,nS,nS,nS,nS,nS,J 0,nS,nS,J 0,J 0] 88)=x/\Bw w x/\Zh x w.heap.size L/\Zh x (w.heap.size+1) lH/\Zh x (w.heap.size+1+1) [J 0,nS,nS,nS,nS,nS,nS,J 0,nS,nS,J 0,J 0]/\x.heap.size=w.heap.size+1+1+1:=by
 have⟨y,hy,h1,h2,h3,h4⟩:=vco w L lH 31 43;have b:=TK y (G #[J 0,nS,nS,nS,nS,nS,nS,J 0,nS,nS,J 0,J 0] 88);have h:=Zh.new y [J 0,nS,nS,nS,nS,nS,nS,J 0,nS,nS,J 0,J 0] 88;rw[h4]at h;exact⟨_,rfl,by rw[hy];exact TJ h1 b,by rw[hy];exact h2.below b,by rw[hy];exact h3.below b,by rw[hy];exact h,by rw[hy];simp[h4]⟩
theorem Yh{α:Type}{cs:α->List Value}{k:Nat}(h:∀x,(cs x).length=k)(L:List α):∀r∈L.map cs,r.length=k:=λr hr=>by
 obtain⟨x,_,rfl⟩:=List.mem_map.1 hr;exact h x
theorem YW{w:World}{base:Nat}{e:TypeId}{q:Nat}{v:Value}{xs:List Value}(h:w.ownsRow base e q v n xs):∃a c,v=U a n c:=by
 rcases h.2 with⟨h1,h2⟩|⟨_,_,_,h1,_⟩
 .exact⟨_,_,by rw[h1,h2]⟩
 .exact⟨_,_,h1⟩
theorem Us(h:p):Hid p:=h
theorem js0{L:List Ud}:∀u∈(L.map Ud.cs).flatten,u.oneCell'=true:=λu hu=>by
 simp only[List.mem_flatten,List.mem_map]at hu;obtain⟨r,⟨t,_,rfl⟩,hr⟩:=hu;simp[Ud.cs]at hr;rcases hr with rfl|rfl|rfl|rfl|rfl|rfl|rfl|rfl|rfl<;>rfl
theorem jti{L:List UO}:∀u∈(L.map UO.cs).flatten,u.oneCell'=true:=λu hu=>by
 simp only[List.mem_flatten,List.mem_map]at hu;obtain⟨r,⟨t,_,rfl⟩,hr⟩:=hu;simp[UO.cs]at hr;rcases hr with rfl|rfl<;>rfl
theorem jxg{L:List TX}:∀u∈(L.map TX.cs).flatten,u.oneCell'=true:=λu hu=>by
 simp only[List.mem_flatten,List.mem_map]at hu;obtain⟨r,⟨t,_,rfl⟩,hr⟩:=hu;simp[TX.cs]at hr;rcases hr with rfl|rfl|rfl|rfl|rfl|rfl<;>rfl
theorem jup{L:List Up}:∀u∈(L.map Up.cs).flatten,u.oneCell'=true:=λu hu=>by
 simp only[List.mem_flatten,List.mem_map]at hu;obtain⟨r,⟨t,_,rfl⟩,hr⟩:=hu;simp[Up.cs]at hr;rcases hr with rfl|rfl|rfl|rfl|rfl|rfl|rfl|rfl<;>rfl
abbrev Wt(s:Uo)(a b c d e f va ia:Option Addr)(ca cb cc cd ce cf cv ci:Nat)(m k:Int):List Value:=[J s.tx,U a s.Tz.Tw.length ca,U b s.Tz.TC.length cb,U c s.Tz.TG.length cc,U d s.TE.Tw.length cd,U e s.TE.TC.length ce,U f s.TE.TG.length cf,J s.cur,U va s.vs.length cv,U ia s.ix.length ci,J m,J k]
def WZ(t:Int)(g:Bool)(e:TD):Up:=⟨t,g,e.id,e.name,e.TH,e.Ty,e.TM,e.TL⟩
def VP:Uo:=⟨0,⟨[],[],[]⟩,⟨[],[],[]⟩,0,[],[]⟩
section
open Go.ChangeShapes Go.WideShapes Go.ChangeAt Go.RowKit Go.Deep
theorem jfc{α:Type}{P:Nat->α->Prop}:∀n,(∀i,i<n->∃r,P i r)->∃l:List α,l.length=n/\∀i r,l[i]? =some r->P i r:=by
 intro n
 induction n with
 |zero=>intro _;exact⟨[],rfl,λi r h=>by simp at h⟩
 |succ n ih=>
  intro h;have⟨l,hl,hp⟩:=ih λi hi=>h i Q
  have⟨r,hr⟩:=h n Q;refine⟨l++[r],by simp[hl],λi x hx=>?_⟩;rcases Nat.lt_or_ge i l.length with hi|hi
  .rw[VS hi]at hx;exact hp i x hx
  .rw[List.getElem?_append_right hi]at hx
   have e:i-l.length=0:=by
    rcases Nat.eq_zero_or_pos (i-l.length)with e|e
    .exact e
    .rw[List.getElem?_eq_none Z6]at hx;cases hx
   rw[e]at hx;simp at hx;subst hx;have:i=n:=Q;subst this;exact hr
theorem cI:Tryz.prog.cellsOf 2=1:=Z4
section
variable {H : Type} {enc : TypeId × Value -> H} {w : World} {bF : Nat -> Bool} {held : Bool}