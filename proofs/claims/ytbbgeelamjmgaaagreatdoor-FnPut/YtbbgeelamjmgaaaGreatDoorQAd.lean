import Derived.Test.YtbbgeelamjmgaaaGreatDoorSLd
import Derived.Test.YtbbgeelamjmgaaaGreatDoorSEd
set_option maxRecDepth 20000
set_option maxHeartbeats 0
set_option linter.unusedSimpArgs false
open Go.RowKit Go.Sort
namespace Go.Proofs.YtbbgeelamjmgaaaGreatDoor
variable{K:Act->World->Prop}{E:Prop}{x:Obj}{W0 w':World}{B B2 base bytes c8 cS cap g3 i j k m n q:Nat}{e e2 t:TypeId}{pa v:Value}{d8 l xs:List Value}{cs:Array Value}{e9 p8:Option Addr}{zs:List pE}{z:pE}{r:ZW}{ac:Act}{s:ZP}
theorem vez{P:Program}{w:World}{cm:Array Oper}{o:Oper}{a:Act}{vQQ:Exit->Act->World->Prop}(oz:o.guard=none)(s x:Operand)(t:TypeId)
  (ho:o.op=.call { callee:=.builtin .append,args:=#[s,x],argTypes:=#[t,t] })
  (base:Nat) (e:TypeId) (i:TypeInfo) (z:Value) (size bytes:Nat) (ht:P.underlying t=some (.slice e)) (hi:P.info? e=some i) (hz:i.zero=some z)
  (AD:i.size=size) (iG:i.bytes=bytes) (Pm:z.cells.size=size) (hsz:0<size)
  (v:Value) (n:Nat) (xs:List Value) (hs:a.eval s=v) (ai:w.ownsRow base e size v n xs)
  (O:Addr) (m c:Nat) (d8:List Value) (hx:a.eval x=.slice (some O) m c) (hl:d8.length=m*size) (A9:∀j u,d8[j]? =some u->w.cell? (O.add j)=some u) (h1:∀u∈d8,u.oneCell'=true)
  (Pw:n+m<=maxLen) (np:(n+m)*bytes<=140737488355328) (n6:base<=w.heap.size)
  (h:∀v' w',w'.ownsRow base e size v' (n+m) (xs++d8)->w.grownBy w' v.ownBlock->K (a.put o.dst v') w'):
  if Region.wanted o (yielded cm a.tmps)=true then Oper.wp P o a w K vQQ else E:=by
 have hw:Region.wanted o (yielded cm a.tmps)=true:=by simp[Region.wanted,oz]
 rw[if_pos hw];exact wp_append_own w s x t ho base e i z size bytes ht hi hz AD iG Pm hsz v n xs hs ai O m c d8 hx hl A9 h1 Pw np n6 λv' w' h2 h3 _=>h v' w' h2 h3
theorem vcX{w W:World}{o:Obj}(h:Bw w W):Bw w (W.alloc o):=h.alloc h.size _
theorem vcC{w:World}{o:Obj}{g:Nat}(h:w.heap[g]? =some x):(w.alloc o).heap[g]? =some x:=by
 have hl:=(Array.getElem?_eq_some_iff.mp h).1;rw[(ZA w o).block g hl];exact h
theorem LQ{w:World}{g:Nat}(h:w.heap[g]? =some x):g<w.heap.size:=(Array.getElem?_eq_some_iff.mp h).1
theorem vb8{w:World}{g:Nat}(h:w.heap[k]? =some x)(hg:w.grownBy w' (some g))(az:k≠g):w'.heap[k]? =some x:=(hg.block k (LQ h) (by simpa using az)).trans h
theorem vcn{w:World}{y:Obj}{g:Nat}(h:w.heap[k]? =some x)(h2:w.heap[g]? =some y)(az:x≠y):k≠g:=λe=>by
 subst e;rw[h]at h2;exact az (Z9 h2)
theorem vdz{w:World}(h:w.heap[n+1]? =some x):n+1+1<=w.heap.size:=LQ h
theorem vel{w:World}{g:Nat}(h:w.heap[g]? =some (G #[] t (0,0)))(hb:base<=g):w.ownsRow base t q (so g 0 0) 0 []:=⟨M,.inr ⟨g,0,#[],rfl,hb,h,ZD _,Nat.zero_le _,M,M⟩⟩
theorem vbs{w:World}(h:w.ownsRow base e q v n xs){g:Nat}(hg:v.ownBlock=some g):∃cs,w.heap[g]? =some (G cs e (0,0)):=by
 rcases h.2 with⟨h1,_⟩|⟨g',_,cur,h1,_,h2,_⟩
 .rw[h1]at hg;cases hg
 .rw[h1]at hg
  injection hg with hg
  subst hg;exact⟨cur,h2⟩
theorem vem{w:World}{g:Nat}(h:w.ownsRow base e q v n xs)(hg:w.grownBy w' (some g))(h2:w.heap[g]? =some (G cs e2 (0,0)))(az:e≠e2):w'.ownsRow base e q v n xs:=World.ownsRow.kept h hg (.inr λhe=>by
 have⟨ds,hd⟩:=vbs h he;rw[h2]at hd;simp at hd
 exact az hd.2.symm)
theorem C6{w:World}{g:Nat}(h:w.heap[g]? =some (G l.toArray t (0,0))):Zh w g l:=λi u hu=>⟨by simp[World.cell?,h,hu],by simp[World.frozen?,h]⟩
theorem veT{w W W':World}{g:Nat}(h:Bw w W)(hg:W.grownBy W' (some g))(hb:w.heap.size+1+1<=g):Bw w W':=h.grown hg h.size (λk hk=>by injection hk with hk;omega)
theorem vjh(w:World)(l1 l2:List Value)(t1 t2:TypeId):Bw w ((w.alloc (G l1.toArray t1)).alloc (G l2.toArray t2))/\((w.alloc (G l1.toArray t1)).alloc (G l2.toArray t2)).heap[w.heap.size]? =some (G l1.toArray t1 (0,0))/\((w.alloc (G l1.toArray t1)).alloc (G l2.toArray t2)).heap[w.heap.size+1]? =some (G l2.toArray t2 (0,0)):=
 ⟨vcX (vcX (ZU _ _)),vcC (heap_alloc_new w _),by
  have h:=heap_alloc_new (w.alloc (G l1.toArray t1)) (G l2.toArray t2);rw[World.size_alloc]at h
  exact h⟩
structure R1P(w wx:World)(a b c:Value)(nr nz nl:Nat)(rn ln:List Value)(g3:Nat)(p8:Option Addr)(c8:Nat)(e9:Option Addr)(cS:Nat):Prop where
 par:wx.heap[w.heap.size]? =some (G #[a,b,c] 27 (0,0))
 res:wx.heap[w.heap.size+1]? =some (G #[nS,nS,nS] 27 (0,0))
 var:wx.heap[g3]? =some (G #[U p8 nr c8,nS,U e9 nl cS] 27 (0,0))
 rul:wx.ownsRow (w.heap.size+1+1) 116 9 (U p8 nr c8) nr rn
 lin:wx.ownsRow (w.heap.size+1+1) 122 2 (U e9 nl cS) nl ln
 ge:w.heap.size+1+1<=g3
 ZB:Bw w wx
theorem vbZ{w:World}{g:Nat}(h:w.heap[g]? =some (G cs t (0,0))):(w.setCell (O g j) v).heap[g]? =some (G (cs.setIfInBounds j v) t (0,0)):=by
 rw[Go.Sort.setCell_eq];simp[Go.Sort.mapBlock,Array.getElem?_modify,h];rfl
theorem vbK{w:World}{g:Nat}(h:w.heap[k]? =some x)(az:k≠g):(w.setCell (O g j) v).heap[k]? =some x:=(heap_setCell_other w (O g j) k v (by simpa using az)).trans h
theorem vaP{w:World}{g:Nat}{u:Value}(h:w.ownsRow base e q v n xs)(h2:w.heap[g]? =some (G cs e2 (0,0)))(az:e≠e2):(w.setCell (O g j) u).ownsRow base e q v n xs:=vem h ⟨rfl,rfl,rfl,M,λk _ hk=>heap_setCell_other w (O g j) k u (λhe=>hk (by simp[he]))⟩ h2 az
theorem vid{w W:World}{a b c:Value}{nr nz nl:Nat}{rn ln:List Value}(par:W.heap[w.heap.size]? =some (G #[a,b,c] 27 (0,0)))(res:W.heap[w.heap.size+1]? =some (G #[nS,nS,nS] 27 (0,0)))(var:W.heap[g3]? =some (G #[nS,nS,nS] 27 (0,0)))(rul:W.ownsRow (w.heap.size+1+1) 116 9 (U p8 nr c8) nr rn)(lin:W.ownsRow (w.heap.size+1+1) 122 2 (U e9 nl cS) nl ln)(ge:w.heap.size+1+1<=g3)(ZB:Bw w W):
  R1P w (((W.setCell (O g3 0) (U p8 nr c8)).setCell (O g3 1) nS).setCell (O g3 2) (U e9 nl cS)) a b c nr nz nl rn ln g3 p8 c8 e9 cS:=by
 have h1:=vbZ (j:=0) (v:=U p8 nr c8) var;have h2:=vbZ (j:=1) (v:=nS) h1;exact⟨vbK (vbK (vbK par Q) Q) Q,vbK (vbK (vbK res Q) Q) Q,vbZ h2,vaP (vaP (vaP rul var RN) h1 RN) h2 RN,vaP (vaP (vaP lin var RN) h1 RN) h2 RN,ge,((ZB.setCell (show w.heap.size<=g3 by omega) _).setCell (show w.heap.size<=g3 by omega) _).setCell (show w.heap.size<=g3 by omega) _⟩
structure R5P(w wx:World)(a b c:Value)(nr nz nl:Nat)(rn ln:List Value)(zs:List pE)(g3:Nat)(p8:Option Addr)(c8:Nat)(e9:Option Addr)(cS i:Nat):Prop where
 par:wx.heap[w.heap.size]? =some (G #[a,b,c] 27 (0,0))
 res:wx.heap[w.heap.size+1]? =some (G #[nS,nS,nS] 27 (0,0))
 rul:wx.ownsRow (w.heap.size+1+1) 116 9 (U p8 nr c8) nr rn
 lin:wx.ownsRow (w.heap.size+1+1) 122 2 (U e9 nl cS) nl ln
 ge:w.heap.size+1+1<=g3
 ZB:Bw w wx
 ex:∃(pz:Option Addr) (cz:Nat) (zr:List (List Value)),wx.heap[g3]? =some (G #[U p8 nr c8,U pz i cz,U e9 nl cS] 27 (0,0))/\zr.length=i/\(∀x∈zr,x.length=2)/\(∀u∈zr.flatten,u.oneCell'=true)/\wx.ownsRow (w.heap.size+1+1) 120 2 (U pz i cz) i zr.flatten/\∀(j:Nat) (z:pE),j<i->zs[j]? =some z->∃e c,zr[j]? =some [I z.name,U e z.ZC.length c]/\wx.ownsRow (w.heap.size+1+1) 154 6 (U e z.ZC.length c) z.ZC.length (z.ZC.map ZH.cs).flatten
theorem R5P.below{w W W':World}{a b c:Value}{nr nz nl:Nat}{rn ln:List Value}(h:R5P w W a b c nr nz nl rn ln zs g3 p8 c8 e9 cS i)(hb:Bw W W'):R5P w W' a b c nr nz nl rn ln zs g3 p8 c8 e9 cS i:=by
 have hp:=λ{g:Nat} {x:Obj} (hx:W.heap[g]? =some x)=>(hb.block g (LQ hx)).trans hx
 have⟨pz,cz,zr,h1,h2,h3,h4,h5,h6⟩:=h.ex
 exact⟨hp h.par,hp h.res,uZ h.rul hb,uZ h.lin hb,h.ge,h.ZB.trans (hb.mono h.ZB.size),pz,cz,zr,hp h1,h2,h3,h4,uZ h5 hb,λj z hj hz=>by
  have⟨e,c,k1,k2⟩:=h6 j z hj hz
  exact⟨e,c,k1,uZ k2 hb⟩⟩
theorem R5P.step{w W W':World}{a b c:Value}{nr nz nl:Nat}{rn ln:List Value}{pz pe pn:Option Addr}{cz ce cn:Nat}{zr:List (List Value)}(h:R5P w W a b c nr nz nl rn ln zs g3 p8 c8 e9 cS i)(hv:W.heap[g3]? =some (G #[U p8 nr c8,U pz i cz,U e9 nl cS] 27 (0,0)))(hl:zr.length=i)(hq:∀x∈zr,x.length=2)(h1:∀u∈zr.flatten,u.oneCell'=true)(ho:W.ownsRow (w.heap.size+1+1) 120 2 (U pz i cz) i zr.flatten)(L5:∀(j:Nat) (z:pE),j<i->zs[j]? =some z->∃e c,zr[j]? =some [I z.name,U e z.ZC.length c]/\W.ownsRow (w.heap.size+1+1) 154 6 (U e z.ZC.length c) z.ZC.length (z.ZC.map ZH.cs).flatten)(hz:zs[i]? =some z)(he:W.ownsRow (w.heap.size+1+1) 154 6 (U pe z.ZC.length ce) z.ZC.length (z.ZC.map ZH.cs).flatten)
  (hn:W'.ownsRow (w.heap.size+1+1) 120 2 (U pn (i+1) cn) (i+1) (zr.flatten++[I z.name,U pe z.ZC.length ce])) (hg:W.grownBy W' (U pz i cz).ownBlock):R5P w (W'.setCell (O g3 1) (U pn (i+1) cn)) a b c nr nz nl rn ln zs g3 p8 c8 e9 cS (i+1):=by
 have kh:∀{g:Nat} {cs:Array Value} {t:TypeId},t≠120->W.heap[g]? =some (G cs t (0,0))->W'.heap[g]? =some (G cs t (0,0)):=λ{g cs t} ht hx=>(hg.block g (LQ hx) (λe=>by
  have⟨ds,hd⟩:=vbs ho e.symm;rw[hx]at hd;simp at hd
  exact ht hd.2)).trans hx
 have ko:∀{t:TypeId} {q:Nat} {v:Value} {n:Nat} {xs:List Value},t≠120->W.ownsRow (w.heap.size+1+1) t q v n xs->W'.ownsRow (w.heap.size+1+1) t q v n xs:=λ{t q v n xs} ht hx=>World.ownsRow.kept hx hg (by
  cases hb:v.ownBlock with
  |none=>exact .inl rfl
  |some g=>exact .inr (λe=>by
   have⟨ds,hd⟩:=vbs hx hb;have⟨es,he⟩:=vbs ho e.symm;rw[hd]at he;simp at he
   exact ht he.2))
 have oJ:=kh RN hv;have Tk:=LQ hv;have T6:Bw w W':=h.ZB.grown hg h.ZB.size (λk hk=>by have:=(World.ownsRow.lt ho k hk).1;omega);have Ta:=kh RN h.par;have Tb:=kh RN h.res;have K7:=h.ge;refine⟨vbK Ta Q,vbK Tb Q,vaP (ko RN h.rul) oJ RN,vaP (ko RN h.lin) oJ RN,K7,T6.setCell (show w.heap.size<=g3 by omega) _,pn,cn,zr++[[I z.name,U pe z.ZC.length ce]],vbZ oJ,by simp[hl],λx hx=>?_,λu hu=>?_,?_,λj y hj hy=>?_⟩
 .rcases List.mem_append.1 hx with hx|hx
  .exact hq x hx
  .simp at hx;subst hx;rfl
 .rw[List.flatten_append]at hu
  rcases List.mem_append.1 hu with hu|hu
  .exact h1 u hu
  .simp at hu
   rcases hu with rfl|rfl<;>rfl
 .rw[List.flatten_append]
  exact vaP (by simpa using hn) oJ RN
 .rcases Nat.lt_or_ge j i with Ca|Ca
  .have⟨e,Tg,k1,k2⟩:=L5 j y Ca hy
   exact⟨e,Tg,by rw[N9 Q];exact k1,vaP (ko RN k2) oJ RN⟩
  .obtain rfl:j=i:=Q
   rw[hz]at hy;obtain rfl:=Z9 hy;exact⟨pe,ce,by rw[List.getElem?_append_right Q,hl];simp,vaP (ko RN he) oJ RN⟩
theorem vfz{W W':World}{g:Nat}(ho:W.ownsRow base 120 2 v n xs)(hg:W.grownBy W' v.ownBlock)(hx:W.heap[g]? =some (G cs t (0,0)))(ht:t≠120):W'.heap[g]? =some (G cs t (0,0)):=(hg.block g (LQ hx) (λe=>by
 have⟨ds,hd⟩:=vbs ho e.symm;rw[hx]at hd;simp at hd
 exact ht hd.2)).trans hx
theorem vgZ{w:World}{g:Nat}(h:w.heap[g]? =some (G l.toArray t (0,0))):∀j u,l[j]? =some u->w.cell? (((O g 0):Addr).add j)=some u:=λj u hu=>by
 rw[vby,Nat.zero_add];exact(C6 h).c j hu
theorem vbm{w:World}(h:w.ownsRow base e q v n xs)(hk:∀k cs,base<=k->w.heap[k]? =some (G cs e (0,0))->w'.heap[k]? =some (G cs e (0,0))):w'.ownsRow base e q v n xs:=by
 refine⟨h.1,?_⟩;rcases h.2 with h1|⟨g,c,cur,h1,h2,h3,h4⟩
 .exact .inl h1
 .exact .inr ⟨g,c,cur,h1,h2,hk g _ h2 h3,h4⟩
def vbo(t:TypeId):Prop:=t=116\/t=120\/t=154\/t=122
def Gz(B:Nat)(w:World)(v:Value)(r:ZW):Prop:=∀W':World,(∀k cs t,vbo t->B<=k->w.heap[k]? =some (G cs t (0,0))->W'.heap[k]? =some (G cs t (0,0)))->Zd W' v r
theorem Gz.at{w:World}(h:Gz B w v r):Zd w v r:=h w λ_ _ _ _ _ h=>h
theorem Gz.keep{w:World}(h:Gz B w v r)(hk:∀k cs t,vbo t->B<=k->w.heap[k]? =some (G cs t (0,0))->w'.heap[k]? =some (G cs t (0,0))):Gz B w' v r:=λW' hW=>h W' λk cs t ht h1 h2=>hW k cs t ht h1 (hk k cs t ht h1 h2)
theorem Gz.below{w:World}(h:Gz B w v r)(hb:Bw w w'):Gz B w' v r:=h.keep λk _ _ _ _ h2=>(hb.block k (LQ h2)).trans h2
theorem R5P.done{w W:World}{a b c:Value}{nr nz nl:Nat}{rn ln:List Value}(h:R5P w W a b c nr nz nl rn ln r.YU g3 p8 c8 e9 cS nz)(he:(r.Vv.map ZQ.cs).flatten=rn/\(r.YW.map vH.cs).flatten=ln/\r.Vv.length=nr/\r.YW.length=nl/\r.YU.length=nz):∃pz cz,W.heap[g3]? =some (G #[U p8 nr c8,U pz nz cz,U e9 nl cS] 27 (0,0))/\∀v0 v1 v2,Gz w.heap.size (((W.setCell (O (w.heap.size+1) 0) v0).setCell (O (w.heap.size+1) 1) v1).setCell (O (w.heap.size+1) 2) v2) (.agg #[U p8 nr c8,U pz nz cz,U e9 nl cS]) r/\Bw w (((W.setCell (O (w.heap.size+1) 0) v0).setCell (O (w.heap.size+1) 1) v1).setCell (O (w.heap.size+1) 2) v2):=by
 have⟨pz,cz,zr,h1,h2,h3,h4,h5,h6⟩:=h.ex;obtain⟨rfl,rfl,rfl,rfl,rfl⟩:=he;refine⟨pz,cz,h1,λv0 v1 v2=>?_⟩;have k1:=vbZ (j:=0) (v:=v0) h.res;have k2:=vbZ (j:=1) (v:=v1) k1;have sq:∀{W':World} {base:Nat} {t:TypeId} {q n cap:Nat} {p:Option Addr} {rows:List (List Value)},(∀x∈rows,x.length=q)->rows.length=n->W'.ownsRow base t q (U p n cap) n rows.flatten->Za W' p q rows:=λ{W' base t q n cap p rows} hq hl ho=>by
  subst hl;have⟨a',c',he,hs,_⟩:=jbe ho hq;injection he with he
  rw[he];exact hs
 refine⟨λW' hW=>?_,((h.ZB.setCell (vQs _) _).setCell (vQs _) _).setCell (vQs _) _⟩;have ko:∀{t:TypeId} {q:Nat} {v:Value} {n:Nat} {xs:List Value},t≠27->vbo t->W.ownsRow (w.heap.size+1+1) t q v n xs->W'.ownsRow (w.heap.size+1+1) t q v n xs:=λht hT hx=>vbm (vaP (vaP (vaP hx h.res ht) k1 ht) k2 ht) λk cs g1 g2=>hW k cs _ hT Q g2
 refine⟨p8,pz,e9,c8,cz,cS,rfl,sq (jlb (cs:=ZQ.cs) (λ_=>rfl) _) M (ko RN (.inl rfl) h.rul),?_,sq (jlb (cs:=vH.cs) (λ_=>rfl) _) M (ko RN (.inr (.inr (.inr rfl))) h.lin)⟩;rcases sq h3 h2 (ko RN (.inr (.inl rfl)) h5)with hn|⟨g,o,rfl,hc⟩
 .refine .inl (List.length_eq_zero_iff.mp ?_)
  rw[<- h2,hn];rfl
 .refine .inr ⟨g,o,rfl,λi z hz=>?_⟩
  have⟨e,ce,q1,q2⟩:=h6 i z (List.getElem?_eq_some_iff.1 hz).1 hz;exact⟨by simpa using hc i 0 _ _ q1 rfl,_,by simpa using hc i 1 _ _ q1 rfl,e,ce,rfl,sq (jlb (cs:=ZH.cs) (λ_=>rfl) _) M (ko RN (.inr (.inr (.inl rfl))) q2)⟩
theorem R1P.start{w wx:World}{a b c:Value}{nr nz nl:Nat}{rn ln:List Value}(zs:List pE)(h:R1P w wx a b c nr nz nl rn ln g3 p8 c8 e9 cS):R5P w wx a b c nr nz nl rn ln zs g3 p8 c8 e9 cS 0:=⟨h.par,h.res,h.rul,h.lin,h.ge,h.ZB,none,0,[],h.var,rfl,λx hx=>by simp at hx,λx hx=>by simp at hx,World.ownsRow_nil _ _ _ _,λj z hj=>Q⟩
section
open Go.RowKit Go.Sort
section
variable {P : Program} {cm : Array Oper} {vQQ : Exit -> Act -> World -> Prop} {md : Region.Mode} {S : World -> Prop} {pi : Nat} {bw : Array Bool} {a : Act} {w : World} {o o2 o3 : Oper}
theorem vbf(i:Nat)(hr:Region.ready md cm bw=[i])(ho:cm[i]? =some o)(h:∀K:Act->World->Prop,Shut (∀a w,S w->(S w->wpAnyH P md cm vQQ S pi (bw.setIfInBounds i true) a w)->K a w)->if Region.wanted o (yielded cm a.tmps)=true then Oper.wp P o a w K vQQ else K (a.put o.dst undef) w):wpAnyH P md cm vQQ S (pi+1) bw a w:=wpAnyH_ready hr M (AllReadyH.cons ho h AllReadyH.nil)
theorem vbY(i j:Nat)(hr:Region.ready md cm bw=[i,j])(ho:cm[i]? =some o)(yd:cm[j]? =some o2)(h:∀K:Act->World->Prop,Shut (∀a w,S w->(S w->wpAnyH P md cm vQQ S pi (bw.setIfInBounds i true) a w)->K a w)->if Region.wanted o (yielded cm a.tmps)=true then Oper.wp P o a w K vQQ else K (a.put o.dst undef) w)(h2:∀K:Act->World->Prop,Shut (∀a w,S w->(S w->wpAnyH P md cm vQQ S pi (bw.setIfInBounds j true) a w)->K a w)->if Region.wanted o2 (yielded cm a.tmps)=true then Oper.wp P o2 a w K vQQ else K (a.put o2.dst undef) w):wpAnyH P md cm vQQ S (pi+1) bw a w:=wpAnyH_ready hr M (AllReadyH.cons ho h (AllReadyH.cons yd h2 AllReadyH.nil))
theorem vfU(i j k:Nat)(hr:Region.ready md cm bw=[i,j,k])(ho:cm[i]? =some o)(yd:cm[j]? =some o2)(pm:cm[k]? =some o3)(h:∀K:Act->World->Prop,Shut (∀a w,S w->(S w->wpAnyH P md cm vQQ S pi (bw.setIfInBounds i true) a w)->K a w)->if Region.wanted o (yielded cm a.tmps)=true then Oper.wp P o a w K vQQ else K (a.put o.dst undef) w)(h2:∀K:Act->World->Prop,Shut (∀a w,S w->(S w->wpAnyH P md cm vQQ S pi (bw.setIfInBounds j true) a w)->K a w)->if Region.wanted o2 (yielded cm a.tmps)=true then Oper.wp P o2 a w K vQQ else K (a.put o2.dst undef) w)(h3:∀K:Act->World->Prop,Shut (∀a w,S w->(S w->wpAnyH P md cm vQQ S pi (bw.setIfInBounds k true) a w)->K a w)->if Region.wanted o3 (yielded cm a.tmps)=true then Oper.wp P o3 a w K vQQ else K (a.put o3.dst undef) w):wpAnyH P md cm vQQ S (pi+1) bw a w:=wpAnyH_ready hr M (AllReadyH.cons ho h (AllReadyH.cons yd h2 (AllReadyH.cons pm h3 AllReadyH.nil)))
end
def vaS(w:World)(v:Value)(q n:Nat)(l:List Value):Prop:=l.length=n*q/\(∀u∈l,u.oneCell'=true)/\∃p c,v=U p n c/\(p=none->n=0)/\∀W,Bw w W->∀O,p=some O->∀j u,l[j]? =some u->W.cell? (O.add j)=some u
theorem vaS.of{w:World}{p:Option Addr}{c:Nat}{rows:List (List Value)}(h:Za w p q rows)(hn:rows.length=n)(hq:∀r∈rows,r.length=q)(h1:∀u∈rows.flatten,u.oneCell'=true):vaS w (U p n c) q n rows.flatten:=by
 refine⟨by rw[jbx hq,hn],h1,p,c,rfl,?_,?_⟩
 .rintro rfl
  rcases h with h|⟨b,o,e,_⟩
  .rw[<- hn,h];rfl
  .cases e
 .rintro W hb O rfl j u hj
  rcases h with h|⟨b,o,e,hc⟩
  .rw[h]at hj;simp at hj
  .obtain rfl:=Z9 e
   exact Za.flat (Za.below (.inr ⟨b,o,rfl,hc⟩) hb) hq j u hj
theorem vf4{w:World}(base:Nat)(t ty e:TypeId)(i:TypeInfo)(size c:Nat)(ht:Tryz.prog.underlying t=some (.slice e))(hi:Tryz.prog.info? e=some i)(v:Value)(n:Nat)(xs:List Value)(ai:w.ownsRow base e size v n xs):(Builtin.append_ #[t,t] ty #[v,.slice none 0 c]).run Tryz.prog w=.ok v w:=by
 rcases ai.2 with⟨rfl,rfl⟩|⟨g,cap,cur,rfl,_,_,sG,_⟩
 .simp[Builtin.append_,run_underlying ht,sizeOf,typeInfo,hi,Builtin.lenOf,Builtin.firstCells]
 .simp[Builtin.append_,run_underlying ht,sizeOf,typeInfo,hi,Builtin.lenOf,Builtin.firstCells,sG,storeCells]
theorem vdY{w W:World}{cm:Array Oper}{o:Oper}{a:Act}{vQQ:Exit->Act->World->Prop}{g:Nat}{z:Value}(s x:Operand)(t:TypeId)(oz:o.guard=none)
  (ho:o.op=.call { callee:=.builtin .append,args:=#[s,x],argTypes:=#[t,t] }) (ht:Tryz.prog.underlying t=some (.slice e)) (hi:∃i:TypeInfo,Tryz.prog.info? e=some i/\i.zero=some z/\i.size=q/\i.bytes=bytes) (hz:z.cells.size=q) (hq:0<q) (hy:bytes<=104)
  (hs:a.eval s=so g 0 0) (hd:W.heap[g]? =some (.cells #[] e (0,0))) (K7:base<=g) (hx:a.eval x=pa) (hF:vaS w pa q m d8) (hb:Bw w W) (hm:m<=1048576)
  (h:∀p c W',W'.ownsRow base e q (.slice p m c) m d8->W.grownBy W' (some g)->K (a.put o.dst (.slice p m c)) W'):
  if Region.wanted o (yielded cm a.tmps)=true then Oper.wp Tryz.prog o a W K vQQ else E:=by
 obtain⟨i,i0,i1,i2,i3⟩:=hi;have hl:=LQ hd;have Kl:(0+m)*bytes<=140737488355328:=Nat.le_trans (Nat.mul_le_mul (by omega:0+m<=1048576) hy) (by omega);obtain⟨f1,f2,p,c,rfl,f3,f4⟩:=hF;cases p with
 |none=>
  obtain rfl:=f3 rfl;obtain rfl:d8=[]:=List.eq_nil_of_length_eq_zero (by omega);have hw:Region.wanted o (yielded cm a.tmps)=true:=by simp[Region.wanted,oz]
  have dk:=vf4 (w:=W) base t o.type e i q c ht i0 _ 0 [] (vel hd K7);rw[if_pos hw];unfold Oper.wp;simp[execOp,ho,resolve,invoke,builtin,hs,hx,dk,Result.andThen];exact h (some (O g 0)) 0 W (vel hd K7) (World.grownBy.refl _ _)
 |some O=>
  refine vez oz s x t ho base e i z q bytes ht i0 i1 i2 i3 hz hq _ 0 [] hs (vel hd K7) O m c d8 hx f1 (f4 _ hb O rfl) f2 (by unfold maxLen;omega) Kl (by omega) ?_;intro v W' h1 h2;rw[List.nil_append,Nat.zero_add]at h1;obtain⟨p,c,rfl⟩:=vao h1;exact h p c W' h1 h2
structure Oc(w W:World)(a b c:Value)(nr nz nl:Nat)(rn ln:List Value)(d5 d9 v3:Option Nat)(o8 O4:Option (Option Addr × Nat)):Prop where
 par:W.heap[w.heap.size]? =some (G #[a,b,c] 27 (0,0))
 res:W.heap[w.heap.size+1]? =some (G #[nS,nS,nS] 27 (0,0))
 ZB:Bw w W
 k5:∀g,d5=some g->W.heap[g]? =some (G #[] 116 (0,0))/\w.heap.size+1+1<=g
 k9:∀g,d9=some g->W.heap[g]? =some (G #[] 122 (0,0))/\w.heap.size+1+1<=g
 k3:∀g,v3=some g->W.heap[g]? =some (G #[nS,nS,nS] 27 (0,0))/\w.heap.size+1+1<=g
 k8:∀p c,o8=some (p,c)->W.ownsRow (w.heap.size+1+1) 116 9 (U p nr c) nr rn
 k12:∀p c,O4=some (p,c)->W.ownsRow (w.heap.size+1+1) 122 2 (U p nl c) nl ln
section
variable {w W W' : World} {a b c : Value} {nr nz nl g : Nat} {rn ln : List Value} {d5 d9 v3 : Option Nat} {o8 O4 : Option (Option Addr × Nat)} {p : Option Addr} {cp : Nat}
theorem Oc.S(h:Oc w W a b c nr nz nl rn ln d5 d9 v3 o8 O4):W.cell? (O w.heap.size 0)=some a/\W.cell? (O w.heap.size 2)=some c:=⟨(C6 h.par).c 0 rfl,(C6 h.par).c 2 rfl⟩
theorem Oc.all(h:Oc w W a b c nr nz nl rn ln d5 d9 v3 o8 O4)(o:Obj):Oc w (W.alloc o) a b c nr nz nl rn ln d5 d9 v3 o8 O4:=⟨vcC h.par,vcC h.res,vcX h.ZB,λg e=>⟨vcC (h.k5 g e).1,(h.k5 g e).2⟩,λg e=>⟨vcC (h.k9 g e).1,(h.k9 g e).2⟩,λg e=>⟨vcC (h.k3 g e).1,(h.k3 g e).2⟩,λp c e=>nO (h.k8 p c e) o,λp c e=>nO (h.k12 p c e) o⟩
theorem Oc.al5(h:Oc w W a b c nr nz nl rn ln d5 d9 v3 o8 O4):Oc w (W.alloc (G #[] 116)) a b c nr nz nl rn ln (some W.heap.size) d9 v3 o8 O4:=
 have k:=h.all (G #[] 116)
 ⟨k.par,k.res,k.ZB,λg e=>by cases e;exact⟨heap_alloc_new W _,vdz h.res⟩,k.k9,k.k3,k.k8,k.k12⟩
theorem Oc.al9(h:Oc w W a b c nr nz nl rn ln d5 d9 v3 o8 O4):Oc w (W.alloc (G #[] 122)) a b c nr nz nl rn ln d5 (some W.heap.size) v3 o8 O4:=
 have k:=h.all (G #[] 122)
 ⟨k.par,k.res,k.ZB,k.k5,λg e=>by cases e;exact⟨heap_alloc_new W _,vdz h.res⟩,k.k3,k.k8,k.k12⟩
theorem Oc.al3(h:Oc w W a b c nr nz nl rn ln d5 d9 v3 o8 O4):Oc w (W.alloc (G #[nS,nS,nS] 27)) a b c nr nz nl rn ln d5 d9 (some W.heap.size) o8 O4:=
 have k:=h.all (G #[nS,nS,nS] 27)
 ⟨k.par,k.res,k.ZB,k.k5,k.k9,λg e=>by cases e;exact⟨heap_alloc_new W _,vdz h.res⟩,k.k8,k.k12⟩
theorem Oc.vi8{cm:Array Oper}{o:Oper}{vQQ:Exit->Act->World->Prop}(h:Oc w W a b c nr nz nl rn ln (some g) d9 v3 none O4)(hF:vaS w a 9 nr rn)(hm:nr<=1048576)(oz:o.guard=none)
  (ho:o.op=.call { callee:=.builtin .append,args:=#[.tmp 5,.tmp 7],argTypes:=#[23,23] }) (hs:ac.eval (.tmp 5)=so g 0 0) (hx:ac.eval (.tmp 7)=a)
  (hh:∀p cp W',Oc w W' a b c nr nz nl rn ln none d9 v3 (some (p,cp)) O4->K (ac.put o.dst (.slice p nr cp)) W'):if Region.wanted o (yielded cm ac.tmps)=true then Oper.wp Tryz.prog o ac W K vQQ else E:=by
 obtain⟨hd,K7⟩:=h.k5 g rfl;exact vdY _ _ _ oz ho Tryz.underlying23 jr3 rfl (by omega) (by omega) hs hd K7 hx hF h.ZB hm λp cp W' h1 hg=>hh p cp W' ⟨vb8 h.par hg (by omega),vb8 h.res hg (by omega),veT h.ZB hg K7,λg e=>(by cases e),λg e=>⟨vb8 (h.k9 g e).1 hg (vcn (h.k9 g e).1 hd (by simp)),(h.k9 g e).2⟩,λg e=>⟨vb8 (h.k3 g e).1 hg (vcn (h.k3 g e).1 hd (by simp)),(h.k3 g e).2⟩,λp c e=>by cases e;exact h1,λp c e=>vem (h.k12 p c e) hg hd (by decide)⟩
theorem Oc.vi7{cm:Array Oper}{o:Oper}{vQQ:Exit->Act->World->Prop}(h:Oc w W a b c nr nz nl rn ln d5 (some g) v3 o8 none)(hF:vaS w c 2 nl ln)(hm:nl<=1048576)(oz:o.guard=none)
  (ho:o.op=.call { callee:=.builtin .append,args:=#[.tmp 9,.tmp 11],argTypes:=#[25,25] }) (hs:ac.eval (.tmp 9)=so g 0 0) (hx:ac.eval (.tmp 11)=c)
  (hh:∀p cp W',Oc w W' a b c nr nz nl rn ln d5 none v3 o8 (some (p,cp))->K (ac.put o.dst (.slice p nl cp)) W'):if Region.wanted o (yielded cm ac.tmps)=true then Oper.wp Tryz.prog o ac W K vQQ else E:=by
 obtain⟨hd,K7⟩:=h.k9 g rfl;exact vdY _ _ _ oz ho Tryz.underlying25 jr4 rfl (by omega) (by omega) hs hd K7 hx hF h.ZB hm λp cp W' h1 hg=>hh p cp W' ⟨vb8 h.par hg (by omega),vb8 h.res hg (by omega),veT h.ZB hg K7,λg e=>⟨vb8 (h.k5 g e).1 hg (vcn (h.k5 g e).1 hd (by simp)),(h.k5 g e).2⟩,λg e=>(by cases e),λg e=>⟨vb8 (h.k3 g e).1 hg (vcn (h.k3 g e).1 hd (by simp)),(h.k3 g e).2⟩,λp c e=>vem (h.k8 p c e) hg hd (by decide),λp c e=>by cases e;exact h1⟩
end
def E1(W0 W:World)(g:Nat):Prop:=Bw W0 W/\W.heap[g]? =some (G #[] 154 (0,0))/\W0.heap.size<=g
def E2(w W0 W:World)(z:pE)(p:Option Addr)(c:Nat):Prop:=Bw W0 W/\W.ownsRow (w.heap.size+1+1) 154 6 (U p z.ZC.length c) z.ZC.length (z.ZC.map ZH.cs).flatten
def E3(w W0 W:World)(z:pE)(p:Option Addr)(c g:Nat):Prop:=Bw W0 W/\W.ownsRow (w.heap.size+1+1) 154 6 (U p z.ZC.length c) z.ZC.length (z.ZC.map ZH.cs).flatten/\W.heap[g]? =some (G #[I z.name,U p z.ZC.length c] 120 (0,0))
theorem E1.new{W:World}(h:Bw W0 W):E1 W0 (W.alloc (G #[] 154)) W.heap.size:=⟨vcX h,heap_alloc_new W _,h.size⟩
theorem E2.new{w W:World}{p:Option Addr}{c:Nat}(h:E2 w W0 W z p c):E3 w W0 (W.alloc (G #[I z.name,U p z.ZC.length c] 120)) z p c W.heap.size:=⟨vcX h.1,nO h.2 _,heap_alloc_new W _⟩
theorem E1.step{w W:World}{g:Nat}{qe:Value}{cm:Array Oper}{o:Oper}{vQQ:Exit->Act->World->Prop}(h:E1 W0 W g)(hb:Bw w W0)(h2:w.heap.size+1+1<=W0.heap.size)(hF:vaS w qe 6 z.ZC.length (z.ZC.map ZH.cs).flatten)(hm:z.ZC.length<=1048576)(oz:o.guard=none)
  (ho:o.op=.call { callee:=.builtin .append,args:=#[.tmp 29,.tmp 35],argTypes:=#[118,118] }) (hs:ac.eval (.tmp 29)=so g 0 0) (hx:ac.eval (.tmp 35)=qe)
  (hh:∀p c W',E2 w W0 W' z p c->K (ac.put o.dst (.slice p z.ZC.length c)) W'):if Region.wanted o (yielded cm ac.tmps)=true then Oper.wp Tryz.prog o ac W K vQQ else E:=by
 have K7:=h.2.2;exact vdY _ _ _ oz ho Tryz.underlying118 jqj rfl (by omega) (by omega) hs h.2.1 (by omega) hx hF (hb.trans (h.1.mono hb.size)) hm λp c W' h1 hg=>hh p c W' ⟨h.1.grown hg h.1.size (λk hk=>by injection hk with hk;omega),h1⟩
end
theorem vgf(r:ZW)(v:Value)(w:World)(hv:Zd w v r)(sm:r.small):
  C 99 #[v] w λq w'=>∃a b c ca cb cc,q=.returned (.agg #[.slice a r.Vv.length ca,.slice b r.YU.length cb,.slice c r.YW.length cc])/\Gz w.heap.size w' (.agg #[.slice a r.Vv.length ca,.slice b r.YU.length cb,.slice c r.YW.length cc]) r/\Bw w w':=by
 obtain⟨a,b,c,ca,cb,cc,rfl,hA,hZ,hC⟩:=hv.form;obtain⟨m1,m2,m3,m4⟩:=sm;have J7:Hid (vaS w (.slice a r.Vv.length ca) 9 r.Vv.length (r.Vv.map ZQ.cs).flatten):=vaS.of hA (by simp) (jlb (cs:=ZQ.cs) (λ_=>rfl) _) js0;have Hh:Hid (vaS w (.slice c r.YW.length cc) 2 r.YW.length (r.YW.map vH.cs).flatten):=vaS.of hC (by simp) (jlb (cs:=vH.cs) (λ_=>rfl) _) jti;have HZ:=ZE hZ;obtain⟨bg,ga,n9⟩:=vjh w [.slice a r.Vv.length ca,.slice b r.YU.length cb,.slice c r.YW.length cc] [nS,nS,nS] 27 27;clear hA hZ hC hv;generalize GY:(r.Vv.map ZQ.cs).flatten=rn at *;generalize Lg:(r.YW.map vH.cs).flatten=ln at *;generalize Mc:r.Vv.length=nr at *;generalize fH:r.YW.length=nl at *;generalize Cq:r.YU.length=nz at *;have HEQ:=ZE (And.intro GY (And.intro Lg (And.intro Mc (And.intro fH Cq))));clear GY Lg Mc fH Cq;unfold C;go_in;go_wp2_with fail;generalize (w.alloc (.cells #[.slice a nr ca,.slice b nz cb,.slice c nl cc] 27)).alloc (.cells #[nS,nS,nS] 27)=wA at *;go_cut [3]from 5 to 13 (λs3 wx=>∃g3 p8 c8 e9 cS,s3=.pointer (some (O g3 0))/\Hid (R1P w wx (.slice a nr ca) (.slice b nz cb) (.slice c nl cc) nr nz nl rn ln g3 p8 c8 e9 cS))
 case first=>
  refine wp_region_noPanic ?_;refine wp_region_held_drew (S:=λw'=>w'.cell? (O w.heap.size 0)=some (.slice a nr ca)/\w'.cell? (O w.heap.size 2)=some (.slice c nl cc)) (by kernel_rfl) ⟨(C6 (w:=wA.drew) ga).c 0 rfl,(C6 (w:=wA.drew) ga).c 2 rfl⟩ (λcZ=>?_);have h:Oc w wA.drew (.slice a nr ca) (.slice b nz cb) (.slice c nl cc) nr nz nl rn ln none none none none none:=⟨ga,n9,bg.trans ((rW wA).mono bg.size),λg e=>(by cases e),λg e=>(by cases e),λg e=>(by cases e),λp c e=>(by cases e),λp c e=>(by cases e)⟩;clear bg ga n9;generalize wA.drew=wB at *;refine wpAnyH_take (i:=1) (v:=?v1) rfl (by kernel_rfl) (by kernel_rfl) (by kernel_rfl) (λ_ _ _ h=>h) (Or.inl ⟨(by kernel_rfl),?y1⟩) cZ ?z1
  case y1=>(intro wq dA;(try dsimp only at dA);go_simp;try with_reducible rfl)
  try simp only[Act.put,qq1,qq2,qq3]
  refine wpAnyH_take (i:=2) (v:=?v2) rfl (by kernel_rfl) (by kernel_rfl) (by kernel_rfl) (λ_ _ _ h=>h) (Or.inl ⟨(by kernel_rfl),?y2⟩) cZ ?z2
  case y2=>(intro wq dA;(try dsimp only at dA);go_simp;try with_reducible rfl)
  try simp only[Act.put,qq1,qq2,qq3]
  refine wpAnyH_take (i:=5) (v:=?v3) rfl (by kernel_rfl) (by kernel_rfl) (by kernel_rfl) (λ_ _ _ h=>h) (Or.inl ⟨(by kernel_rfl),?y3⟩) cZ ?z3
  case y3=>(intro wq dA;(try dsimp only at dA);go_simp;try with_reducible rfl)
  try simp only[Act.put,qq1,qq2,qq3]
  refine wpAnyH_take (i:=6) (v:=?v4) rfl (by kernel_rfl) (by kernel_rfl) (by kernel_rfl) (λ_ _ _ h=>h) (Or.inl ⟨(by kernel_rfl),?y4⟩) cZ ?z4
  case y4=>(intro wq dA;(try dsimp only at dA);go_simp;try with_reducible rfl)
  try simp only[Act.put,qq1,qq2,qq3]
  repeat'
   ((first
    |((with_reducible have _:Oc _ _ _ _ _ _ _ _ _ _ none none none none none:=h);refine vfU 0 4 9 (by kernel_rfl) rfl rfl rfl (λK hK=>?_) (λK hK=>?_) (λK hK=>?_))
    |((with_reducible have _:Oc _ _ _ _ _ _ _ _ _ _ none none (some _) none none:=h);refine vbY 0 4 (by kernel_rfl) rfl rfl (λK hK=>?_) (λK hK=>?_))
    |((with_reducible have _:Oc _ _ _ _ _ _ _ _ _ _ none (some _) (some _) none none:=h);refine vbf 0 (by kernel_rfl) rfl (λK hK=>?_))
    |((with_reducible have _:Oc _ _ _ _ _ _ _ _ _ _ (some _) (some _) (some _) none none:=h);refine vbf 3 (by kernel_rfl) rfl (λK hK=>?_))
    |((with_reducible have _:Oc _ _ _ _ _ _ _ _ _ _ none (some _) (some _) (some _) none:=h);refine vbf 7 (by kernel_rfl) rfl (λK hK=>?_))
    |((with_reducible have _:Oc _ _ _ _ _ _ _ _ _ _ (some _) none (some _) none none:=h);refine vbY 3 4 (by kernel_rfl) rfl rfl (λK hK=>?_) (λK hK=>?_))
    |((with_reducible have _:Oc _ _ _ _ _ _ _ _ _ _ none none (some _) (some _) none:=h);refine vbf 4 (by kernel_rfl) rfl (λK hK=>?_))
    |((with_reducible have _:Oc _ _ _ _ _ _ _ _ _ _ none (some _) none none none:=h);refine vbY 0 9 (by kernel_rfl) rfl rfl (λK hK=>?_) (λK hK=>?_))
    |((with_reducible have _:Oc _ _ _ _ _ _ _ _ _ _ (some _) (some _) none none none:=h);refine vbY 3 9 (by kernel_rfl) rfl rfl (λK hK=>?_) (λK hK=>?_))
    |((with_reducible have _:Oc _ _ _ _ _ _ _ _ _ _ none (some _) none (some _) none:=h);refine vbY 7 9 (by kernel_rfl) rfl rfl (λK hK=>?_) (λK hK=>?_))
    |((with_reducible have _:Oc _ _ _ _ _ _ _ _ _ _ none none none (some _) (some _):=h);refine vbf 9 (by kernel_rfl) rfl (λK hK=>?_))
    |((with_reducible have _:Oc _ _ _ _ _ _ _ _ _ _ (some _) none none none none:=h);refine vfU 3 4 9 (by kernel_rfl) rfl rfl rfl (λK hK=>?_) (λK hK=>?_) (λK hK=>?_))
    |((with_reducible have _:Oc _ _ _ _ _ _ _ _ _ _ none none none (some _) none:=h);refine vbY 4 9 (by kernel_rfl) rfl rfl (λK hK=>?_) (λK hK=>?_))
    |fail);all_goals first
     |(refine h.vi8 J7.out m1 (by rfl) (by rfl) (by rfl) (by rfl) ?_;clear h;intro p8 c8 wB h;refine hK.out _ _ h.S (λcZ=>?_);(try simp only[Act.put,qq1,qq2,qq3]);clear hK K)
     |(refine h.vi7 Hh.out m3 (by rfl) (by rfl) (by rfl) (by rfl) ?_;clear h;intro e9 cS wB h;refine hK.out _ _ h.S (λcZ=>?_);(try simp only[Act.put,qq1,qq2,qq3]);clear hK K;refine wpAnyH_take (i:=8) (v:=?_) rfl (by kernel_rfl) (by kernel_rfl) (by kernel_rfl) (λ_ _ _ h=>h) (Or.inl ⟨(by kernel_rfl),?_⟩) cZ ?_;rotate_left;focus (intro wq dA;(try dsimp only at dA);go_simp;try with_reducible rfl);(try simp only[Act.put,qq1,qq2,qq3]))
     | (go_simp;first
       |(refine hK.out _ _ h.al5.S (λcZ=>?_);(try simp only[Act.put,qq1,qq2,qq3]);clear hK K;replace h:=h.al5;generalize wB.heap.size=g5 at *;generalize wB.alloc (.cells #[] 116)=wB at *)
       |(refine hK.out _ _ h.al9.S (λcZ=>?_);(try simp only[Act.put,qq1,qq2,qq3]);clear hK K;replace h:=h.al9;generalize wB.heap.size=g9 at *;generalize wB.alloc (.cells #[] 122)=wB at *)
       |(refine hK.out _ _ h.al3.S (λcZ=>?_);(try simp only[Act.put,qq1,qq2,qq3]);clear hK K;replace h:=h.al3;generalize wB.heap.size=g3 at *;generalize wB.alloc (.cells #[nS,nS,nS] 27)=wB at *)
       |fail)
     |fail)
  all_goals
   refine vbf 10 (by kernel_rfl) rfl (λK hK=>?_);obtain⟨eS,K7⟩:=h.k3 _ rfl;have V3:=C6 (l:=[nS,nS,nS]) eS;have j0:=V3.c 0 rfl;have f0:=V3.f 0 rfl;have j1:=V3.c 1 rfl;have f1:=V3.f 1 rfl;have j2:=V3.c 2 rfl;have f2:=V3.f 2 rfl;go_simp;have hF:=vid (nz:=nz) h.par h.res eS (h.k8 _ _ rfl) (h.k12 _ _ rfl) K7 h.ZB;refine hK.out _ _ ⟨(C6 hF.par).c 0 rfl,(C6 hF.par).c 2 rfl⟩ (λcZ=>?_);clear hK K V3 j0 j1 j2 f0 f1 f2
   try simp only[Act.put,List.getElem_toArray,List.getElem_cons_succ,List.getElem_cons_zero,qq1,qq2,qq3]
   refine wpAnyH_done (by kernel_rfl) ?_ _;refine NoPanic.normal ?_;go_wp2;go_meet;exact⟨g3,_,_,_,_,rfl,hF⟩
 case rest=>
  obtain⟨g3,p8,c8,e9,cS,rfl,H1⟩:=hcut;obtain⟨w1,f9⟩:=wL wc;subst f9;have HS:=ZE (H1.out.start r.YU);have Oo:Hid (r.YU.length=nz):=HEQ.out.2.2.2.2;obtain⟨QH,zi,QL,QM,QO⟩:=jr1;clear bg ga n9 H1 J7 Hh;go_wp2;go_loopw [4] (λs4 wr=>∃i:Nat,i<=nz/\s4=J i/\Hid (R5P w wr (.slice a nr ca) (.slice b nz cb) (.slice c nl cc) nr nz nl rn ln r.YU g3 p8 c8 e9 cS i)) (λs4 _=>nz-(intOf s4).toNat)
  .exact⟨0,(by omega),rfl,HS⟩
  ·
   clear HS;obtain⟨wa,dS⟩:=wL wr;subst dS;obtain⟨i,hi,rfl,H5⟩:=hrel;have x1:=(C6 H5.out.par).c 1 rfl;by_cases hlt:i<nz
   .have a1:(i:Int)<(nz:Int):=(by omega)
    have a0:(0:Int)<=(i:Int):=(by omega);obtain⟨z,hz⟩:∃z,r.YU[i]? =some z:=⟨_,ZV (by have:=Oo.out;omega)⟩;obtain⟨bb,bo,rfl,EF,ve,EG,qe,F4,rfl,Nk⟩:=HZ.out.at hz;have FZ:=m4 z (ui hz);have o7:=ZE (H5.out.below (rW wa));have iE:=o7.out.ZB;have E8:=o7.out.par;obtain⟨pz,cz,zr,Em,sP,wX,aH,Qb,L5⟩:=o7.out.ex;have PR:=o7.out.ge;have o6:=vdz o7.out.res;have FN:Hid (∀W',Below wa.drew.heap.size wa.drew W'->∀(j:Nat) (z:pE),j<i->r.YU[j]? =some z->∃e c,zr[j]? =some [.string z.name,.slice e z.ZC.length c]/\W'.ownsRow (w.heap.size+1+1) 154 6 (.slice e z.ZC.length c) z.ZC.length (z.ZC.map ZH.cs).flatten):=λW' hb j z hj hz=>by
     obtain⟨e,c,k1,k2⟩:=L5 j z hj hz;exact⟨e,c,k1,uZ k2 hb⟩
    have Ey:Hid (vaS w (.slice qe z.ZC.length F4) 6 z.ZC.length (z.ZC.map ZH.cs).flatten):=vaS.of Nk (by simp) (jlb (cs:=ZH.cs) (λ_=>rfl) _) jxg;have HA:Hid (∀W,Below wa.drew.heap.size wa.drew W->W.cell? (O w.heap.size 1)=some (.slice (some (O bb bo)) nz cb)/\W.cell? (O bb (bo+i*2))=some (.string z.name)/\W.cell? (O bb (bo+i*2+1))=some (.slice qe z.ZC.length F4)):=λW k=>⟨(C6 ((k.block _ (LQ E8)).trans E8)).c 1 rfl,YR (Zp iE k) EF,YR (Zp iE k) EG⟩
    have HV:Hid (∀W,Below wa.drew.heap.size wa.drew W->W.cell? (O g3 1)=some (.slice pz i cz)):=λW k=>(C6 (l:=[.slice p8 nr c8,.slice pz i cz,.slice e9 nl cS]) ((k.block _ (LQ Em)).trans Em)).c 1 rfl
    clear L5 Nk H5;go_wp2_with fail;refine wp_region_noPanic ?_;refine wp_region_held_drew (S:=λw'=>w'.cell? (O w.heap.size 1)=some (.slice (some (O bb bo)) nz cb)/\w'.cell? (O bb (bo+i*2))=some (.string z.name)/\w'.cell? (O bb (bo+i*2+1))=some (.slice qe z.ZC.length F4)) (by kernel_rfl) (HA.out _ (ZU _ _)) (λcZ=>?_);clear x1;generalize wa.drew=wW at *;generalize hwV:wW=wV at cZ ⊢;have h:Bw wW wV/\True:=⟨by rw[<- hwV];exact ZU _ _,trivial⟩;clear hwV;refine wpAnyH_take (i:=0) (v:=?v5) rfl (by kernel_rfl) (by kernel_rfl) (by kernel_rfl) (λ_ _ _ h=>h) (Or.inl ⟨(by kernel_rfl),?y5⟩) cZ ?z5
    case y5=>(intro wq dA;(try dsimp only at dA);go_simp;try with_reducible rfl)
    try simp only[Act.put,qq1,qq2,qq3]
    refine wpAnyH_take (i:=2) (v:=?v6) rfl (by kernel_rfl) (by kernel_rfl) (by kernel_rfl) (λ_ _ _ h=>h) (Or.inl ⟨(by kernel_rfl),?y6⟩) cZ ?z6
    case y6=>(intro wq dA;(try dsimp only at dA);go_simp;try with_reducible rfl)
    try simp only[Act.put,qq1,qq2,qq3]
    refine wpAnyH_take (i:=3) (v:=?v7) rfl (by kernel_rfl) (by kernel_rfl) (by kernel_rfl) (λ_ _ _ h=>h) (Or.inl ⟨(by kernel_rfl),?y7⟩) cZ ?z7
    case y7=>(intro wq dA;(try dsimp only at dA);go_simp;try with_reducible rfl)
    try simp only[Act.put,qq1,qq2,qq3]
    refine wpAnyH_take (i:=4) (v:=?v8) rfl (by kernel_rfl) (by kernel_rfl) (by kernel_rfl) (λ_ _ _ h=>h) (Or.inl ⟨(by kernel_rfl),?y8⟩) cZ ?z8
    case y8=>(intro wq dA;(try dsimp only at dA);go_simp;try with_reducible rfl)
    try simp only[Act.put,qq1,qq2,qq3]
    refine wpAnyH_take (i:=5) (v:=?v9) rfl (by kernel_rfl) (by kernel_rfl) (by kernel_rfl) (λ_ _ _ h=>h) (Or.inl ⟨(by kernel_rfl),?y9⟩) cZ ?z9
    case y9=>(intro wq dA;(try dsimp only at dA);go_simp;try with_reducible rfl)
    try simp only[Act.put,qq1,qq2,qq3]
    refine wpAnyH_take (i:=6) (v:=?v10) rfl (by kernel_rfl) (by kernel_rfl) (by kernel_rfl) (λ_ _ _ h=>h) (Or.inl ⟨(by kernel_rfl),?y10⟩) cZ ?z10
    case y10=>(intro wq dA;(try dsimp only at dA);go_simp;try with_reducible rfl)
    try simp only[Act.put,qq1,qq2,qq3]
    refine wpAnyH_take (i:=7) (v:=?v11) rfl (by kernel_rfl) (by kernel_rfl) (by kernel_rfl) (λ_ _ _ h=>h) (Or.inl ⟨(by kernel_rfl),?y11⟩) cZ ?z11
    case y11=>(intro wq dA;(try dsimp only at dA);go_simp;try with_reducible rfl)
    try simp only[Act.put,qq1,qq2,qq3]
    refine wpAnyH_take (i:=9) (v:=?v12) rfl (by kernel_rfl) (by kernel_rfl) (by kernel_rfl) (λ_ _ _ h=>h) (Or.inl ⟨(by kernel_rfl),?y12⟩) cZ ?z12
    case y12=>(intro wq dA;(try dsimp only at dA);go_simp;try with_reducible rfl)
    try simp only[Act.put,qq1,qq2,qq3]
    refine wpAnyH_take (i:=10) (v:=?v13) rfl (by kernel_rfl) (by kernel_rfl) (by kernel_rfl) (λ_ _ _ h=>h) (Or.inl ⟨(by kernel_rfl),?y13⟩) cZ ?z13
    case y13=>(intro wq dA;(try dsimp only at dA);go_simp;try with_reducible rfl)
    try simp only[Act.put,qq1,qq2,qq3]
    refine wpAnyH_take (i:=11) (v:=?v14) rfl (by kernel_rfl) (by kernel_rfl) (by kernel_rfl) (λ_ _ _ h=>h) (Or.inl ⟨(by kernel_rfl),?y14⟩) cZ ?z14
    case y14=>(intro wq dA;(try dsimp only at dA);go_simp;try with_reducible rfl)
    try simp only[Act.put,qq1,qq2,qq3]
    refine wpAnyH_take (i:=12) (v:=?v15) rfl (by kernel_rfl) (by kernel_rfl) (by kernel_rfl) (λ_ _ _ h=>h) (Or.inl ⟨(by kernel_rfl),?y15⟩) cZ ?z15
    case y15=>(intro wq dA;(try dsimp only at dA);go_simp;try with_reducible rfl)
    try simp only[Act.put,qq1,qq2,qq3]
    refine wpAnyH_take (i:=13) (v:=?v16) rfl (by kernel_rfl) (by kernel_rfl) (by kernel_rfl) (λ_ _ _ h=>h) (Or.inl ⟨(by kernel_rfl),?y16⟩) cZ ?z16
    case y16=>(intro wq dA;(try dsimp only at dA);go_simp;try with_reducible rfl)
    try simp only[Act.put,qq1,qq2,qq3]
    refine wpAnyH_take (i:=14) (v:=?v17) rfl (by kernel_rfl) (by kernel_rfl) (by kernel_rfl) (λ_ _ _ h=>h) (Or.inl ⟨(by kernel_rfl),?y17⟩) cZ ?z17
    case y17=>(intro wq dA;(try dsimp only at dA);go_simp;try with_reducible rfl)
    try simp only[Act.put,qq1,qq2,qq3]
    refine vbY 1 8 (by kernel_rfl) rfl rfl (λK hK=>?q1_0) (λK hK=>?q1_1)
    case' q1_0=>
     have vd:=HV.out _ h.1;go_simp;refine hK.out _ _ (HA.out _ h.1) (λcZ=>?_)
     try simp only[Act.put,qq1,qq2,qq3]
     clear hK K vd;refine vbf 8 (by kernel_rfl) rfl (λK hK=>?_);go_simp;obtain⟨Pl,h,hq⟩:∃g,E1 wW (wV.alloc (.cells #[] 154)) g/\wV.heap.size=g:=⟨_,E1.new h.1,rfl⟩;refine hK.out _ _ (HA.out _ h.1) (λcZ=>?_)
     try simp only[Act.put,qq1,qq2,qq3]
     clear hK K;rw[hq];clear hq;generalize wV.alloc (.cells #[] 154)=wV at *;refine vbf 15 (by kernel_rfl) rfl (λK hK=>?_);refine h.step iE o6 Ey.out FZ (by rfl) (by rfl) (by rfl) (by rfl) ?_;clear h;intro ll gv wV h;refine hK.out _ _ (HA.out _ h.1) (λcZ=>?_)
     try simp only[Act.put,qq1,qq2,qq3]
     clear hK K;refine wpAnyH_take (i:=16) (v:=?v18) rfl (by kernel_rfl) (by kernel_rfl) (by kernel_rfl) (λ_ _ _ h=>h) (Or.inl ⟨(by kernel_rfl),?y18⟩) cZ ?z18
     case y18=>(intro wq dA;(try dsimp only at dA);go_simp;try with_reducible rfl)
     try simp only[Act.put,qq1,qq2,qq3]
     refine vbf 17 (by kernel_rfl) rfl (λK hK=>?_);go_simp;obtain⟨DM,h,hq⟩:∃g,E3 w wW (wV.alloc (.cells #[.string z.name,.slice ll z.ZC.length gv] 120)) z ll gv g/\wV.heap.size=g:=⟨_,h.new,rfl⟩;refine hK.out _ _ (HA.out _ h.1) (λcZ=>?_)
     try simp only[Act.put,qq1,qq2,qq3]
     clear hK K;rw[hq];clear hq;generalize wV.alloc (.cells #[.string z.name,.slice ll z.ZC.length gv] 120)=wV at *
    case' q1_1=>
     go_simp;obtain⟨Pl,h,hq⟩:∃g,E1 wW (wV.alloc (.cells #[] 154)) g/\wV.heap.size=g:=⟨_,E1.new h.1,rfl⟩;refine hK.out _ _ (HA.out _ h.1) (λcZ=>?_)
     try simp only[Act.put,qq1,qq2,qq3]
     clear hK K;rw[hq];clear hq;generalize wV.alloc (.cells #[] 154)=wV at *;refine vbY 1 15 (by kernel_rfl) rfl rfl (λK hK=>?q5_0) (λK hK=>?q5_1)
     case' q5_0=>
      have vd:=HV.out _ h.1;go_simp;refine hK.out _ _ (HA.out _ h.1) (λcZ=>?_)
      try simp only[Act.put,qq1,qq2,qq3]
      clear hK K vd;refine vbf 15 (by kernel_rfl) rfl (λK hK=>?_);refine h.step iE o6 Ey.out FZ (by rfl) (by rfl) (by rfl) (by rfl) ?_;clear h;intro ll gv wV h;refine hK.out _ _ (HA.out _ h.1) (λcZ=>?_)
      try simp only[Act.put,qq1,qq2,qq3]
      clear hK K;refine wpAnyH_take (i:=16) (v:=?v19) rfl (by kernel_rfl) (by kernel_rfl) (by kernel_rfl) (λ_ _ _ h=>h) (Or.inl ⟨(by kernel_rfl),?y19⟩) cZ ?z19
      case y19=>(intro wq dA;(try dsimp only at dA);go_simp;try with_reducible rfl)
      try simp only[Act.put,qq1,qq2,qq3]
      refine vbf 17 (by kernel_rfl) rfl (λK hK=>?_);go_simp;obtain⟨DM,h,hq⟩:∃g,E3 w wW (wV.alloc (.cells #[.string z.name,.slice ll z.ZC.length gv] 120)) z ll gv g/\wV.heap.size=g:=⟨_,h.new,rfl⟩;refine hK.out _ _ (HA.out _ h.1) (λcZ=>?_)
      try simp only[Act.put,qq1,qq2,qq3]
      clear hK K;rw[hq];clear hq;generalize wV.alloc (.cells #[.string z.name,.slice ll z.ZC.length gv] 120)=wV at *
     case' q5_1=>
      refine h.step iE o6 Ey.out FZ (by rfl) (by rfl) (by rfl) (by rfl) ?_;clear h;intro ll gv wV h;refine hK.out _ _ (HA.out _ h.1) (λcZ=>?_)
      try simp only[Act.put,qq1,qq2,qq3]
      clear hK K;refine wpAnyH_take (i:=16) (v:=?v20) rfl (by kernel_rfl) (by kernel_rfl) (by kernel_rfl) (λ_ _ _ h=>h) (Or.inl ⟨(by kernel_rfl),?y20⟩) cZ ?z20
      case y20=>(intro wq dA;(try dsimp only at dA);go_simp;try with_reducible rfl)
      try simp only[Act.put,qq1,qq2,qq3]
      refine vbY 1 17 (by kernel_rfl) rfl rfl (λK hK=>?q8_0) (λK hK=>?q8_1)
      case' q8_0=>
       have vd:=HV.out _ h.1;go_simp;refine hK.out _ _ (HA.out _ h.1) (λcZ=>?_)
       try simp only[Act.put,qq1,qq2,qq3]
       clear hK K vd;refine vbf 17 (by kernel_rfl) rfl (λK hK=>?_);go_simp;obtain⟨DM,h,hq⟩:∃g,E3 w wW (wV.alloc (.cells #[.string z.name,.slice ll z.ZC.length gv] 120)) z ll gv g/\wV.heap.size=g:=⟨_,h.new,rfl⟩;refine hK.out _ _ (HA.out _ h.1) (λcZ=>?_)
       try simp only[Act.put,qq1,qq2,qq3]
       clear hK K;rw[hq];clear hq;generalize wV.alloc (.cells #[.string z.name,.slice ll z.ZC.length gv] 120)=wV at *
      case' q8_1=>
       go_simp;obtain⟨DM,h,hq⟩:∃g,E3 w wW (wV.alloc (.cells #[.string z.name,.slice ll z.ZC.length gv] 120)) z ll gv g/\wV.heap.size=g:=⟨_,h.new,rfl⟩;refine hK.out _ _ (HA.out _ h.1) (λcZ=>?_)
       try simp only[Act.put,qq1,qq2,qq3]
       clear hK K;rw[hq];clear hq;generalize wV.alloc (.cells #[.string z.name,.slice ll z.ZC.length gv] 120)=wV at *;refine vbf 1 (by kernel_rfl) rfl (λK hK=>?_);have vd:=HV.out _ h.1;go_simp;refine hK.out _ _ (HA.out _ h.1) (λcZ=>?_)
       try simp only[Act.put,qq1,qq2,qq3]
       clear hK K vd
    all_goals
     refine vbf 18 (by kernel_rfl) rfl (λK hK=>?_);obtain⟨bW,Gn,FM⟩:=h;have rx:=uZ Qb bW;refine vez (w:=wV) (by rfl) (.tmp 22) (.tmp 38) 24 (by rfl) (w.heap.size+1+1) 120 QH (.agg #[.string ⟨#[]⟩,nS]) 2 40 Tryz.underlying24 zi QL QM QO rfl (by omega) (.slice pz i cz) i zr.flatten (by rfl) rx (O DM 0) 1 1 [.string z.name,.slice ll z.ZC.length gv] (by rfl) rfl (vgZ FM) (by intro u hu;simp at hu;rcases hu with rfl|rfl<;>rfl) (by unfold maxLen;omega) (by omega) (by have:=bW.size;omega) ?_;intro vn wn hn i6;obtain⟨pn,cn,rfl⟩:=vao hn;have Hb:=(bW.block _ (LQ Em)).trans Em;have V3:=C6 (l:=[.slice p8 nr c8,.slice pz i cz,.slice e9 nl cS]) (vfz rx i6 Hb (by decide));have j1:=V3.c 1 rfl;have f1:=V3.f 1 rfl;have HR:=ZE ((o7.out.below bW).step Hb sP wX aH rx (FN.out _ bW) hz Gn hn i6);have FD:Bw w wn:=(Zp iE bW).grown i6 (Zp iE bW).size (λk hk=>by have:=(World.ownsRow.lt rx k hk).1;omega);have Gh:=vfz rx i6 ((bW.block _ (LQ E8)).trans E8) (by decide);refine hK.out _ _ ⟨(C6 Gh).c 1 rfl,YR FD EF,YR FD EG⟩ (λcZ=>?_)
     try simp only[Act.put,qq1,qq2,qq3]
     clear hK K hn i6 rx Hb V3 Gh FD;refine wpAnyH_take (i:=19) (v:=?_) rfl (by kernel_rfl) (by kernel_rfl) (by kernel_rfl) (λ_ _ _ h=>h) (Or.inl ⟨(by kernel_rfl),?_⟩) cZ ?_
     rotate_left
     focus (intro wq dA;(try dsimp only at dA);go_simp;try with_reducible rfl)
     try simp only[Act.put,qq1,qq2,qq3]
     refine vbf 20 (by kernel_rfl) rfl (λK hK=>?_);go_simp;refine hK.out _ _ ⟨(C6 HR.out.par).c 1 rfl,YR HR.out.ZB EF,YR HR.out.ZB EG⟩ (λcZ=>?_);clear hK K j1 f1
     try simp only[Act.put,List.getElem_toArray,List.getElem_cons_succ,List.getElem_cons_zero,qq1,qq2,qq3]
     refine wpAnyH_done (by kernel_rfl) ?_ _;refine NoPanic.normal ?_;clear cZ;go_wp2;go_roundw
     .exact⟨i+1,(by omega),(by go_num),HR⟩
     .simp[intOf];omega
   .obtain rfl:i=nz:=(by omega)
    obtain⟨pz,cz,eS,hD⟩:=H5.out.done HEQ.out;have V3:=C6 (l:=[.slice p8 nr c8,.slice pz i cz,.slice e9 nl cS]) eS;have VR:=C6 (l:=[nS,nS,nS]) H5.out.res;have j0:=V3.c 0 rfl;have j1:=V3.c 1 rfl;have j2:=V3.c 2 rfl;have o0:=VR.c 0 rfl;have o1:=VR.c 1 rfl;have o2:=VR.c 2 rfl;have f0:=VR.f 0 rfl;have f1:=VR.f 1 rfl;have f2:=VR.f 2 rfl;obtain⟨t0,t1,t2⟩:=jne (v0:=.slice p8 nr c8) (v1:=.slice pz i cz) (v2:=.slice e9 nl cS) o0 o1 o2;have HD:=ZE (hD (.slice p8 nr c8) (.slice pz i cz) (.slice e9 nl cS));clear hD eS V3 VR H5;go_wp2;exact ZM (v:=.agg #[.slice p8 nr c8,.slice pz i cz,.slice e9 nl cS]) (by simp[results,Tryz.results99,go_sem,t0,t1,t2]) rfl ⟨p8,pz,e9,c8,cz,cS,rfl,HD.out⟩
section
open Go.RowKit Go.Lib
theorem Zh.grown{w:World}{b:Nat}{row:Option Nat}(h:Zh w b l)(hg:w.grownBy w' row)(az:some b≠row):Zh w' b l:=λi u hu=>by
 have⟨h1,h2⟩:=h i u hu;exact⟨hg.cell h1 az,(hg.frozen_far (O b i) (ZI h1) az).trans h2⟩
theorem Gz.sets{b:Nat}{w x:World}{L:List (Nat × Value)}(h:Gz B w v r)(K:vdl b w x L)(hb:b<B):Gz B x v r:=h.keep λk _ _ _ h1 h2=>(K.blk k Q).trans h2
theorem vc8{w x:World}{b:Nat}{L:List (Nat × Value)}(h:w.ownsRow base e q v n xs)(K:vdl b w x L)(hb:b<base):x.ownsRow base e q v n xs:=vbm h λk _ h1 h2=>(K.blk k Q).trans h2
theorem Gz.mono{w:World}(h:Gz B w v r)(hb:B2<=B):Gz B2 w v r:=λW' hW=>h W' λk cs t ht h1 h2=>hW k cs t ht Q h2
theorem veF{w W:World}{cm:Array Oper}{rest:List Oper}{o:Oper}{a:Act}{vQQ:Exit->Act->World->Prop}{z:Value}(oz:o.guard=none)(s x:Operand)(t:TypeId)
  (ho:o.op=.call { callee:=.builtin .append,args:=#[s,x],argTypes:=#[t,t] }) (ht:Tryz.prog.underlying t=some (.slice e)) (hi:∃i:TypeInfo,Tryz.prog.info? e=some i/\i.zero=some z/\i.size=q/\i.bytes=bytes) (hz:z.cells.size=q) (hq:0<q) (hy:bytes<=104)
  (v:Value) (n:Nat) (xs:List Value) (hs:a.eval s=v) (ai:W.ownsRow base e q v n xs) (hx:a.eval x=pa) (hF:vaS w pa q m d8) (hb:Bw w W) (hm:n+m<=1048600) (n6:base<=W.heap.size)
  (h:∀v' W',W'.ownsRow base e q v' (n+m) (xs++d8)->W.grownBy W' v.ownBlock->wpList Tryz.prog cm vQQ rest (a.put o.dst v') W'):wpList Tryz.prog cm vQQ (o::rest) a W:=by
 obtain⟨i,i0,i1,i2,i3⟩:=hi;have Kl:(n+m)*bytes<=140737488355328:=Nat.le_trans (Nat.mul_le_mul hm hy) (by omega);obtain⟨f1,f2,p,c,rfl,f3,f4⟩:=hF;cases p with
 |none=>
  obtain rfl:=f3 rfl;obtain rfl:d8=[]:=List.eq_nil_of_length_eq_zero (by omega);have dk:=vf4 (w:=W) base t o.type e i q c ht i0 v n xs ai;refine wpList_plain oz λK hK=>?_
  unfold Oper.wp;simp[execOp,ho,resolve,invoke,builtin,hs,hx,dk,Result.andThen];exact hK _ _ (h v W (by simpa using ai) (World.grownBy.refl _ _))
 |some O=>exact wpList_append_own (w:=W) oz s x t ho base e i z q bytes ht i0 i1 i2 i3 hz hq v n xs hs ai O m c d8 hx f1 (f4 _ hb O rfl) f2 (by unfold maxLen;omega) Kl n6 λv' W' h1 h2 _=>h v' W' h1 h2
theorem vh0{w:World}{a:Option Addr}(h:w.ownsRow base e q (U a m cap) n xs):n<=cap:=by
 rcases h.2 with⟨h1,h2⟩|⟨_,c,_,h1,_,_,h2,_⟩
 .omega
 .injection h1 with _ _ h1;omega
theorem vbC{α:Type}{cs:α->List Value}{w:World}{a:Option Addr}{l:List α}(h:w.ownsRow base e q (.slice a l.length cap) l.length (l.map cs).flatten)(hq:∀x,(cs x).length=q):Za w a q (l.map cs)/\l.length<=cap:=by
 obtain⟨a',c',he,hs,_⟩:=jbe (rows:=l.map cs) (by rw[BX];exact h) (jlb hq _);injection he with he
 exact⟨by rw[he];exact hs,vh0 h⟩
structure KM(B:Nat)(w:World)(v:Value)(s:ZP):Prop where
 form:∃a1 a2 a3 a4 a5 a6 a8 a9 c1 c2 c3 c4 c5 c6 c8 c9,v=.agg (stA s a1 a2 a3 a4 a5 a6 a8 a9 c1 c2 c3 c4 c5 c6 c8 c9).toArray/\Gz B w (.agg #[U a1 s.YT.Vv.length c1,U a2 s.YT.YU.length c2,U a3 s.YT.YW.length c3]) s.YT/\Gz B w (.agg #[U a4 s.YS.Vv.length c4,U a5 s.YS.YU.length c5,U a6 s.YS.YW.length c6]) s.YS/\w.ownsRow B 82 8 (U a8 s.vs.length c8) s.vs.length (s.vs.map ZN.cs).flatten/\w.ownsRow B 76 2 (U a9 s.ix.length c9) s.ix.length (s.ix.map ZY.cs).flatten
theorem KM.st{w:World}(h:KM B w v s):Jd w v s:=by
 obtain⟨a1,a2,a3,a4,a5,a6,a8,a9,c1,c2,c3,c4,c5,c6,c8,c9,rfl,h1,h2,h3,h4⟩:=h.form;have⟨k1,k2⟩:=vbC h3 (λ_=>rfl);have⟨m1,m2⟩:=vbC h4 (λ_=>rfl);exact⟨a1,a2,a3,a4,a5,a6,a8,a9,c1,c2,c3,c4,c5,c6,c8,c9,rfl,h1.at,h2.at,k1,m1,k2,m2⟩
theorem KM.mono{w:World}(h:KM B w v s)(hb:B2<=B):KM B2 w v s:=by
 have⟨a1,a2,a3,a4,a5,a6,a8,a9,c1,c2,c3,c4,c5,c6,c8,c9,hv,h1,h2,h3,h4⟩:=h.form;exact⟨a1,a2,a3,a4,a5,a6,a8,a9,c1,c2,c3,c4,c5,c6,c8,c9,hv,h1.mono hb,h2.mono hb,Ez h3 hb,Ez h4 hb⟩
theorem KM.keep{w:World}(h:KM B w v s)(hk:∀k,B<=k->k<w.heap.size->w'.heap[k]? =w.heap[k]?):KM B w' v s:=by
 have⟨a1,a2,a3,a4,a5,a6,a8,a9,c1,c2,c3,c4,c5,c6,c8,c9,hv,h1,h2,h3,h4⟩:=h.form;have r:∀{v:Value} {r:ZW},Gz B w v r->Gz B w' v r:=λh=>h.keep λk _ _ _ h1 h2=>(hk k h1 (LQ h2)).trans h2
 exact⟨a1,a2,a3,a4,a5,a6,a8,a9,c1,c2,c3,c4,c5,c6,c8,c9,hv,r h1,r h2,vbm h3 λk _ h1 h2=>(hk k h1 (LQ h2)).trans h2,vbm h4 λk _ h1 h2=>(hk k h1 (LQ h2)).trans h2⟩
theorem KM.below{w:World}(h:KM B w v s)(hb:Bw w w'):KM B w' v s:=h.keep λk _ h2=>hb.block k h2
theorem veq(B:Nat)(w:World):Gz B w (.agg #[nS,nS,nS]) ⟨[],[],[]⟩:=λ_ _=>⟨none,none,none,0,0,0,rfl,.inl rfl,.inl rfl,.inl rfl⟩
theorem va1(B:Nat)(w:World):KM B w (.agg (stA De none none none none none none none none 0 0 0 0 0 0 0 0).toArray) De:=⟨none,none,none,none,none,none,none,none,0,0,0,0,0,0,0,0,rfl,veq B w,veq B w,⟨rfl,.inl ⟨rfl,rfl⟩⟩,⟨rfl,.inl ⟨rfl,rfl⟩⟩⟩
structure vgC(s:ZP)(w:World)(q:Ending)(w':World):Prop where
 ex:∃v,q=V v/\KM w.heap.size w' v s
 ZB:Bw w w'
theorem vew(s:ZP)(v:Value)(w:World)(hv:Jd w v s)(hm:Zr s):
  C 64 #[v] w (vgC s w):=by
 obtain⟨a,b,c,d,e,f,va,ia,ca,cb,cc,cd,ce,cf,cv,ci,rfl,hN,hW,hV,hX,_,_⟩:=hv.form;obtain⟨tx,YT,YS,cur,vs,ix⟩:=s;obtain⟨m1,m2,m3,m4,m5⟩:=hm;simp only at *;obtain⟨w0,KR,ag,A0,R0,dP⟩:=vb3 w (stA ⟨tx,YT,YS,cur,vs,ix⟩ a b c d e f va ia ca cb cc cd ce cf cv ci) [J 0,nS,nS,nS,nS,nS,nS,J 0,nS,nS] 31 31;have q1:=λW h=>vgf YT (.agg #[.slice a YT.Vv.length ca,.slice b YT.YU.length cb,.slice c YT.YW.length cc]) W h m1.sm
 have q2:=λW h=>vgf YS (.agg #[.slice d YS.Vv.length cd,.slice e YS.YU.length ce,.slice f YS.YW.length cf]) W h m2.sm
 have HN:=ZE hN;have HW:=ZE hW;have HV:Hid (vaS w (.slice va vs.length cv) 8 vs.length (vs.map ZN.cs).flatten):=vaS.of hV (by simp) (jlb (cs:=ZN.cs) (λ_=>rfl) _) jup;have HX:Hid (vaS w (.slice ia ix.length ci) 2 ix.length (ix.map ZY.cs).flatten):=vaS.of hX (by simp) (jlb (cs:=ZY.cs) (λ_=>rfl) _) jbn;clear hN hW hV hX hv m1 m2 m3;generalize B0:(vs.map ZN.cs).flatten=vn at *;generalize KY:(ix.map ZY.cs).flatten=xn at *;have HEQ:=ZE (And.intro B0 KY);clear B0 KY;unfold C;go_in;have Ah:=A0.c 1 rfl;have oZ:=A0.f 1 rfl;have Ai:=A0.c 2 rfl;have pc:=A0.f 2 rfl;have Aj:=A0.c 3 rfl;have pd:=A0.f 3 rfl;go_wp2_with fail;refine(q1 _ (HN.out.below ag)).mono ?_;rintro q w1 ⟨a1,a2,a3,c1,c2,c3,rfl,hR,bg⟩;rw[dP]at hR;have l1:=bg.size;rw[dP]at l1;have aj:=Zp ag bg;have A1:=A0.below bg;have R1:=R0.below bg;have HR:=ZE hR;clear A0 R0 ag bg hR dP q1;clear Ah oZ Ai pc Aj pd;have Ah:=A1.c 1 rfl;have oZ:=A1.f 1 rfl;have Ai:=A1.c 2 rfl;have pc:=A1.f 2 rfl;have Aj:=A1.c 3 rfl;have pd:=A1.f 3 rfl;have IT:=A1.c 4 rfl;have Ap:=A1.f 4 rfl;have IU:=A1.c 5 rfl;have Aq:=A1.f 5 rfl;have IV:=A1.c 6 rfl;have Ar:=A1.f 6 rfl;go_wp2_with fail;clear Ah oZ Ai pc Aj pd IT Ap IU Aq IV Ar;obtain⟨wB,hx,K⟩:=vaQ (w.heap.size) w1 [(1,.slice a1 YT.Vv.length c1),(2,.slice a2 YT.YU.length c2),(3,.slice a3 YT.YW.length c3)];simp only[stl]at hx;rw[hx];have A2:=K.var _ A1;have R2:=K.oth _ _ (by omega) R1;have an:=K.ZB _ _ (by omega) aj;have gK:=ZE (HR.out.sets K (by omega));have z2:=K.size;clear A1 R1 aj HR hx K;refine(q2 _ (HW.out.below an)).mono ?_;rintro q w2 ⟨a4,a5,a6,c4,c5,c6,rfl,hR,ac⟩;rw[z2]at hR;have l2:=ac.size;rw[z2]at l2;have ax:=Zp an ac;have A3:=A2.below ac;have R3:=R2.below ac;have jt:=ZE (gK.out.below ac);have HR:=ZE (hR.mono (B2:=w.heap.size+1+1) (by omega));clear A2 R2 an ac hR gK z2 q2;have IN:=A3.c 4 rfl;have Ak:=A3.f 4 rfl;have IP:=A3.c 5 rfl;have Al:=A3.f 5 rfl;have IQ:=A3.c 6 rfl;have Am:=A3.f 6 rfl;have IW:=A3.c 8 rfl;have As:=A3.f 8 rfl;obtain⟨wC,Nl,K⟩:=vaQ (w.heap.size) w2 [(4,.slice a4 YS.Vv.length c4),(5,.slice a5 YS.YU.length c5),(6,.slice a6 YS.YW.length c6)];simp only[stl]at Nl;have A4:=K.var _ A3;have R4:=K.oth _ _ (by omega) R3;have aR:=K.ZB _ _ (by omega) ax;have nG:=ZE (jt.out.sets K (by omega));have Kj:=ZE (HR.out.sets K (by omega));have Qo:=K.size.symm;have l4:w.heap.size+1+1<=wC.heap.size:=(by omega);have QG:=YR (ZA wC (.cells #[] 82)) (A4.c 8 rfl);clear A3 R3 ax jt HR K;go_wp2_with (first|(at_builtin;refine veF (w:=w) rfl _ _ 28 rfl Tryz.underlying28 ji0 rfl (by omega) (by omega) _ 0 [] rfl (World.ownsRow_made wC #[] 0 (ZD _) (Nat.zero_le _) (by simp)) rfl HV.out ?qa ?qb ?qc ?_)|fail)
 case qa=>exact(aR.alloc aR.size _)
 case qb=>omega
 case qc=>simp
 clear Nl Qo QG IN Ak IP Al IQ Am IW As;intro v3 w3 ho dp
 try simp only[List.nil_append,Nat.zero_add]at ho
 have aD:Bw wC w3:=(ZA wC _).grown dp (by simp) (by intro k hk;simp[Value.ownBlock]at hk;omega);obtain⟨a8,c8,rfl⟩:=vao ho;have bG:=Zp aR aD;have A5:=A4.below aD;have R5:=R4.below aD;have I4:=ZE (nG.out.below aD);have Ic:=ZE (Kj.out.below aD);have Jq:=ZE (Ez ho l4);have l5:=Nat.le_trans l4 aD.size;clear A4 R4 aR aD ho dp nG Kj l4;have IR:=A5.c 8 rfl;have An:=A5.f 8 rfl;have IX:=A5.c 9 rfl;have Au:=A5.f 9 rfl;obtain⟨wD,ND,K⟩:=vaQ (w.heap.size) w3 [(8,.slice a8 vs.length c8)];simp only[stl]at ND;have A6:=K.var _ A5;have R6:=K.oth _ _ (by omega) R5;have cp:=K.ZB _ _ (by omega) bG;have I5:=ZE (I4.out.sets K (by omega));have Km:=ZE (Ic.out.sets K (by omega));have K1:=ZE (vc8 Jq.out K (by omega));have Qp:=K.size.symm;have l6:w.heap.size+1+1<=wD.heap.size:=(by omega);have DL:=YR (ZA wD (.cells #[] 76)) (A6.c 9 rfl);clear A5 R5 bG I4 Ic Jq K;go_wp2_with (first|(at_builtin;refine veF (w:=w) rfl _ _ 29 rfl Tryz.underlying29 jft rfl (by omega) (by omega) _ 0 [] rfl (World.ownsRow_made wD #[] 0 (ZD _) (Nat.zero_le _) (by simp)) rfl HX.out ?qa ?qb ?qc ?_)|fail)
 case qa=>exact(cp.alloc cp.size _)
 case qb=>omega
 clear ND Qp DL IR An IX Au;intro v4 w4 ho dp
 try simp only[List.nil_append,Nat.zero_add]at ho
 have hb6:Bw wD w4:=(ZA wD _).grown dp (by simp) (by intro k hk;simp[Value.ownBlock]at hk;omega);obtain⟨a9,c9,rfl⟩:=vao ho;have dz:=Zp cp hb6;have A7:=A6.below hb6;have R7:=R6.below hb6;have Ig:=ZE (I5.out.below hb6);have Kw:=ZE (Km.out.below hb6);have K8:=ZE (uZ K1.out hb6);have KC:=ZE (Ez ho l6);clear A6 R6 cp hb6 ho dp I5 Km K1;have OH:=A7.c 9 rfl;have IS:=A7.f 9 rfl;obtain⟨wF,hx,K⟩:=vaQ (w.heap.size) w4 [(9,.slice a9 ix.length c9)];simp only[stl]at hx;have OZ:=K.var _ A7;have RZ:=K.oth _ _ (by omega) R7;obtain⟨wG,n8,K2⟩:=vaQ (w.heap.size+1) wF [(0,J tx),(1,.slice a1 YT.Vv.length c1),(2,.slice a2 YT.YU.length c2),(3,.slice a3 YT.YW.length c3),(4,.slice a4 YS.Vv.length c4),(5,.slice a5 YS.YU.length c5),(6,.slice a6 YS.YW.length c6),(7,J cur),(8,.slice a8 vs.length c8),(9,.slice a9 ix.length c9)];simp only[stl]at n8;obtain⟨z0,z1,z2,z3,z4,z5,z6,z7,z8,z9⟩:=OZ.ZS;obtain⟨y0,y1,y2,y3,y4,y5,y6,y7,y8,y9⟩:=RZ.ZS;obtain⟨Ns,Nt,Nu,Nv,Nw,Nx,Ny,Nz,NA,NB⟩:=RZ.vaV;have RF:=K2.var _ RZ;have On:=ZE (((Ig.out.sets K (by omega)).sets K2 (by omega)).mono (show w.heap.size<=w.heap.size+1+1 by omega));have OX:=ZE (((Kw.out.sets K (by omega)).sets K2 (by omega)).mono (show w.heap.size<=w.heap.size+1+1 by omega));have Oq:=ZE (Ez (vc8 (vc8 K8.out K (by omega)) K2 (by omega)) (show w.heap.size<=w.heap.size+1+1 by omega));have P0:=ZE (Ez (vc8 (vc8 KC.out K (by omega)) K2 (by omega)) (show w.heap.size<=w.heap.size+1+1 by omega));have yA:=ZE (K2.ZB _ _ (by omega) (K.ZB _ _ (by omega) dz));obtain⟨t0,t1,t2,t3,t4,t5,t6,t7,t8,t9⟩:=RF.ZS;clear RF OZ RZ A7 R7 dz Ig Kw K8 KC K K2;go_wp2;exact ZM (v:=.agg #[J tx,.slice a1 YT.Vv.length c1,.slice a2 YT.YU.length c2,.slice a3 YT.YW.length c3,.slice a4 YS.Vv.length c4,.slice a5 YS.YU.length c5,.slice a6 YS.YW.length c6,J cur,.slice a8 vs.length c8,.slice a9 ix.length c9]) (by simp[results,Tryz.results64,go_sem,t0,t1,t2,t3,t4,t5,t6,t7,t8,t9]) rfl ⟨⟨_,rfl,⟨a1,a2,a3,a4,a5,a6,a8,a9,c1,c2,c3,c4,c5,c6,c8,c9,rfl,On.out,OX.out,by rw[HEQ.out.1];exact Oq.out,by rw[HEQ.out.2];exact P0.out⟩⟩,yA.out⟩
