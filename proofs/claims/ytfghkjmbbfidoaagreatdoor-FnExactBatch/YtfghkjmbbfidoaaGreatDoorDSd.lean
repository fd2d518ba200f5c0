import Derived.Test.YtfghkjmbbfidoaaGreatDoorCPd
set_option maxHeartbeats 0
set_option linter.unusedSimpArgs false
open Go.RowKit Go.Sort
namespace Go.Proofs.YtfghkjmbbfidoaaGreatDoor
theorem step_append_own {P:Program} {w:World} {oL:Array Oper} {o:Oper} {a:Act} {K:Act->World->Prop} {Q:Exit->Act->World->Prop} {E:Prop} (oz:o.guard=none) (s x:Operand) (t:TypeId)
  (ho:o.op=.call { callee:=.builtin .append,args:=#[s,x],argTypes:=#[t,t] })
  (base:Nat) (e:TypeId) (i:TypeInfo) (z:Value) (size bytes:Nat) (ht:P.underlying t=some (.slice e)) (hi:P.info? e=some i) (hz:i.zero=some z)
  (Yu:i.size=size) (iG:i.bytes=bytes) (Pm:z.cells.size=size) (hsz:0<size)
  (v:Value) (n:Nat) (xs:List Value) (hs:a.eval s=v) (ai:w.ownsRow base e size v n xs)
  (ad:Addr) (m c:Nat) (cq:List Value) (hx:a.eval x=.slice (some ad) m c) (hl:cq.length=m*size) (Ys:∀j u,cq[j]? =some u->w.cell? (ad.add j)=some u) (h1:∀u∈cq,u.oneCell'=true)
  (Rc:n+m<=maxLen) (VV:(n+m)*bytes<=140737488355328) (Yp:base<=w.heap.size)
  (h:∀v' w',w'.ownsRow base e size v' (n+m) (xs++cq)->w.grownBy w' v.ownBlock->K (a.put o.dst v') w'):
  if Region.wanted o (yielded oL a.tmps)=true then Oper.wp P o a w K Q else E:=by
 have hw:Region.wanted o (yielded oL a.tmps)=true:=by simp[Region.wanted,oz]
 rw[if_pos hw]
 exact wp_append_own w s x t ho base e i z size bytes ht hi hz Yu iG Pm hsz v n xs hs ai ad m c cq hx hl Ys h1 Rc VV Yp fun v' w' h2 h3 _=>h v' w' h2 h3
theorem bal0{w W:World}{o:Obj}(h:Bw w W):Bw w (W.alloc o):=h.alloc h.size _
theorem heap_old{w:World}{o x:Obj}{g:Nat}(h:w.heap[g]? =some x):(w.alloc o).heap[g]? =some x:=by
 have hl:=(Array.getElem?_eq_some_iff.mp h).1
 rw[(qal w o).block g hl];exact h
theorem heap_lt{w:World}{x:Obj}{g:Nat}(h:w.heap[g]? =some x):g<w.heap.size:=(Array.getElem?_eq_some_iff.mp h).1
theorem heap_keptR{w w':World}{x:Obj}{g k:Nat}(h:w.heap[k]? =some x)(hg:w.grownBy w' (some g))(az:k≠g):w'.heap[k]? =some x:=(hg.block k (heap_lt h) (by simpa using az)).trans h
theorem heap_ne{w:World}{x y:Obj}{g k:Nat}(h:w.heap[k]? =some x)(h2:w.heap[g]? =some y)(az:x≠y):k≠g:=fun e=>by
 subst e
 rw[h]at h2
 exact az (osi h2)
theorem le_two{w:World}{x:Obj}{n:Nat}(h:w.heap[n+1]? =some x):n+1+1<=w.heap.size:=heap_lt h
theorem own_made{w:World}{t:TypeId}{q g base:Nat}(h:w.heap[g]? =some (.cells #[] t (0,0)))(hb:base<=g):w.ownsRow base t q (so g 0 0) 0 []:=⟨by simp,.inr ⟨g,0,#[],rfl,hb,h,nlr _,Nat.zero_le _,by simp,by simp⟩⟩
theorem own_blkW{w:World}{base:Nat}{e:TypeId}{q:Nat}{v:Value}{n:Nat}{xs:List Value}(h:w.ownsRow base e q v n xs){g:Nat}(hg:v.ownBlock=some g):∃cs,w.heap[g]? =some (.cells cs e (0,0)):=by
 rcases h.2 with⟨h1,_⟩|⟨g',_,cur,h1,_,h2,_⟩
 ·rw[h1]at hg;cases hg
 ·rw[h1]at hg
  injection hg with hg
  subst hg
  exact⟨cur,h2⟩
theorem own_other{w w':World}{base g:Nat}{e e2:TypeId}{q:Nat}{v:Value}{n:Nat}{xs:List Value}{cs:Array Value}(h:w.ownsRow base e q v n xs)(hg:w.grownBy w' (some g))(h2:w.heap[g]? =some (.cells cs e2 (0,0)))(az:e≠e2):w'.ownsRow base e q v n xs:=World.ownsRow.kept h hg (.inr fun he=>by
 obtain⟨ds,hd⟩:=own_blkW h he
 rw[h2]at hd
 simp at hd
 exact az hd.2.symm)
theorem varC_of{w:World}{g:Nat}{l:List Value}{t:TypeId}(h:w.heap[g]? =some (.cells l.toArray t (0,0))):Zh w g l:=fun i u hu=>⟨by simp[World.cell?,h,hu],by simp[World.frozen?,h]⟩
theorem bel_grown2{w W W':World}{g:Nat}(h:Bw w W)(hg:W.grownBy W' (some g))(hb:w.heap.size+1+1<=g):Bw w W':=h.grown hg h.size (fun k hk=>by injection hk with hk;omega)
theorem two_in(w:World)(l1 l2:List Value)(t1 t2:TypeId):Bw w ((w.alloc (.cells l1.toArray t1)).alloc (.cells l2.toArray t2))/\((w.alloc (.cells l1.toArray t1)).alloc (.cells l2.toArray t2)).heap[w.heap.size]? =some (.cells l1.toArray t1 (0,0))/\((w.alloc (.cells l1.toArray t1)).alloc (.cells l2.toArray t2)).heap[w.heap.size+1]? =some (.cells l2.toArray t2 (0,0)):=
 ⟨bal0 (bal0 (brf _ _)),heap_old (heap_alloc_new w _),by
  have h:=heap_alloc_new (w.alloc (.cells l1.toArray t1)) (.cells l2.toArray t2)
  rw[World.size_alloc]at h
  exact h⟩
structure R1P(w wx:World)(a b c nr nz nl:Nat)(rn ln:List Value)(g3:Nat)(p8:Option Addr)(c8:Nat)(am:Option Addr)(cm:Nat):Prop where
 par:wx.heap[w.heap.size]? =some (.cells #[so a nr nr,so b nz nz,so c nl nl] 36 (0,0))
 res:wx.heap[w.heap.size+1]? =some (.cells #[nS,nS,nS] 36 (0,0))
 var:wx.heap[g3]? =some (.cells #[.slice p8 nr c8,nS,.slice am nl cm] 36 (0,0))
 rul:wx.ownsRow (w.heap.size+1+1) 149 9 (.slice p8 nr c8) nr rn
 lin:wx.ownsRow (w.heap.size+1+1) 155 2 (.slice am nl cm) nl ln
 ge:w.heap.size+1+1<=g3
 bel:Bw w wx
theorem set_heap{w:World}{g j:Nat}{v:Value}{cs:Array Value}{t:TypeId}(h:w.heap[g]? =some (.cells cs t (0,0))):(w.setCell (ad g j) v).heap[g]? =some (.cells (cs.setIfInBounds j v) t (0,0)):=by
 rw[Go.Sort.setCell_eq]
 simp[Go.Sort.mapBlock,Array.getElem?_modify,h]
 rfl
theorem set_far{w:World}{g j k:Nat}{v:Value}{x:Obj}(h:w.heap[k]? =some x)(az:k≠g):(w.setCell (ad g j) v).heap[k]? =some x:=(heap_setCell_other w (ad g j) k v (by simpa using az)).trans h
theorem set_ownR{w:World}{g j:Nat}{u:Value}{cs:Array Value}{base:Nat}{e e2:TypeId}{q:Nat}{v:Value}{n:Nat}{xs:List Value}(h:w.ownsRow base e q v n xs)(h2:w.heap[g]? =some (.cells cs e2 (0,0)))(az:e≠e2):(w.setCell (ad g j) u).ownsRow base e q v n xs:=own_other h ⟨rfl,rfl,rfl,by simp,fun k _ hk=>heap_setCell_other w (ad g j) k u (fun he=>hk (by simp[he]))⟩ h2 az
theorem r1p_set{w W:World}{a b c nr nz nl g3 c8 cm:Nat}{rn ln:List Value}{p8 am:Option Addr}(par:W.heap[w.heap.size]? =some (.cells #[so a nr nr,so b nz nz,so c nl nl] 36 (0,0)))(res:W.heap[w.heap.size+1]? =some (.cells #[nS,nS,nS] 36 (0,0)))(var:W.heap[g3]? =some (.cells #[nS,nS,nS] 36 (0,0)))(rul:W.ownsRow (w.heap.size+1+1) 149 9 (.slice p8 nr c8) nr rn)(lin:W.ownsRow (w.heap.size+1+1) 155 2 (.slice am nl cm) nl ln)(ge:w.heap.size+1+1<=g3)(bel:Bw w W):
  R1P w (((W.setCell (ad g3 0) (.slice p8 nr c8)).setCell (ad g3 1) nS).setCell (ad g3 2) (.slice am nl cm)) a b c nr nz nl rn ln g3 p8 c8 am cm:=by
 have h1:=set_heap (j:=0) (v:=.slice p8 nr c8) var
 have h2:=set_heap (j:=1) (v:=nS) h1
 exact⟨set_far (set_far (set_far par (by omega)) (by omega)) (by omega),set_far (set_far (set_far res (by omega)) (by omega)) (by omega),set_heap h2,set_ownR (set_ownR (set_ownR rul var (by decide)) h1 (by decide)) h2 (by decide),set_ownR (set_ownR (set_ownR lin var (by decide)) h1 (by decide)) h2 (by decide),ge,((bel.setCell (show w.heap.size<=g3 by omega) _).setCell (show w.heap.size<=g3 by omega) _).setCell (show w.heap.size<=g3 by omega) _⟩
structure R5P(w wx:World)(a b c nr nz nl:Nat)(rn ln:List Value)(zs:List ZoneD)(g3:Nat)(p8:Option Addr)(c8:Nat)(am:Option Addr)(cm i:Nat):Prop where
 par:wx.heap[w.heap.size]? =some (.cells #[so a nr nr,so b nz nz,so c nl nl] 36 (0,0))
 res:wx.heap[w.heap.size+1]? =some (.cells #[nS,nS,nS] 36 (0,0))
 rul:wx.ownsRow (w.heap.size+1+1) 149 9 (.slice p8 nr c8) nr rn
 lin:wx.ownsRow (w.heap.size+1+1) 155 2 (.slice am nl cm) nl ln
 ge:w.heap.size+1+1<=g3
 bel:Bw w wx
 ex:∃(pz:Option Addr) (cz:Nat) (zr:List (List Value)),wx.heap[g3]? =some (.cells #[.slice p8 nr c8,.slice pz i cz,.slice am nl cm] 36 (0,0))/\zr.length=i/\(∀x∈zr,x.length=2)/\(∀u∈zr.flatten,u.oneCell'=true)/\wx.ownsRow (w.heap.size+1+1) 153 2 (.slice pz i cz) i zr.flatten/\∀(j:Nat) (z:ZoneD),j<i->zs[j]? =some z->∃e c,zr[j]? =some [.string z.name,.slice e z.eras.length c]/\wx.ownsRow (w.heap.size+1+1) 187 6 (.slice e z.eras.length c) z.eras.length (z.eras.map EraD.cs).flatten
theorem R5P.below{w W W':World}{a b c nr nz nl g3 c8 cm i:Nat}{rn ln:List Value}{p8 am:Option Addr}{zs:List ZoneD}(h:R5P w W a b c nr nz nl rn ln zs g3 p8 c8 am cm i)(hb:Bw W W'):R5P w W' a b c nr nz nl rn ln zs g3 p8 c8 am cm i:=by
 have hp:=fun {g:Nat} {x:Obj} (hx:W.heap[g]? =some x)=>(hb.block g (heap_lt hx)).trans hx
 obtain⟨pz,cz,zr,h1,h2,h3,h4,h5,h6⟩:=h.ex
 exact⟨hp h.par,hp h.res,jac h.rul hb,jac h.lin hb,h.ge,h.bel.trans (hb.mono h.bel.size),pz,cz,zr,hp h1,h2,h3,h4,jac h5 hb,fun j z hj hz=>by
  obtain⟨e,c,k1,k2⟩:=h6 j z hj hz
  exact⟨e,c,k1,jac k2 hb⟩⟩
theorem R5P.step {w W W':World} {a b c nr nz nl g3 c8 cm i:Nat} {rn ln:List Value} {p8 am:Option Addr} {zs:List ZoneD} {z:ZoneD} {pz pe pn:Option Addr} {cz ce cn:Nat} {zr:List (List Value)} (h:R5P w W a b c nr nz nl rn ln zs g3 p8 c8 am cm i) (hv:W.heap[g3]? =some (.cells #[.slice p8 nr c8,.slice pz i cz,.slice am nl cm] 36 (0,0))) (hl:zr.length=i) (hq:∀x∈zr,x.length=2) (h1:∀u∈zr.flatten,u.oneCell'=true) (ho:W.ownsRow (w.heap.size+1+1) 153 2 (.slice pz i cz) i zr.flatten) (YN:∀(j:Nat) (z:ZoneD),j<i->zs[j]? =some z->∃e c,zr[j]? =some [.string z.name,.slice e z.eras.length c]/\W.ownsRow (w.heap.size+1+1) 187 6 (.slice e z.eras.length c) z.eras.length (z.eras.map EraD.cs).flatten) (hz:zs[i]? =some z) (he:W.ownsRow (w.heap.size+1+1) 187 6 (.slice pe z.eras.length ce) z.eras.length (z.eras.map EraD.cs).flatten)
  (hn:W'.ownsRow (w.heap.size+1+1) 153 2 (.slice pn (i+1) cn) (i+1) (zr.flatten++[.string z.name,.slice pe z.eras.length ce])) (hg:W.grownBy W' (Value.slice pz i cz).ownBlock):R5P w (W'.setCell (ad g3 1) (.slice pn (i+1) cn)) a b c nr nz nl rn ln zs g3 p8 c8 am cm (i+1):=by
 have kh:∀{g:Nat} {cs:Array Value} {t:TypeId},t≠153->W.heap[g]? =some (.cells cs t (0,0))->W'.heap[g]? =some (.cells cs t (0,0)):=fun {g cs t} ht hx=>(hg.block g (heap_lt hx) (fun e=>by
  obtain⟨ds,hd⟩:=own_blkW ho e.symm
  rw[hx]at hd
  simp at hd
  exact ht hd.2)).trans hx
 have ko:∀{t:TypeId} {q:Nat} {v:Value} {n:Nat} {xs:List Value},t≠153->W.ownsRow (w.heap.size+1+1) t q v n xs->W'.ownsRow (w.heap.size+1+1) t q v n xs:=fun {t q v n xs} ht hx=>World.ownsRow.kept hx hg (by
  cases hb:v.ownBlock with
  |none=>exact .inl rfl
  |some g=>exact .inr (fun e=>by
   obtain⟨ds,hd⟩:=own_blkW hx hb
   obtain⟨es,he⟩:=own_blkW ho e.symm
   rw[hd]at he
   simp at he
   exact ht he.2))
 have oJ:=kh (by decide) hv
 have Rk:=heap_lt hv
 have CK:Bw w W':=h.bel.grown hg h.bel.size (fun k hk=>by have:=(World.ownsRow.lt ho k hk).1;omega)
 have Em:=kh (by decide) h.par
 have Ev:=kh (by decide) h.res
 have K7:=h.ge
 refine⟨set_far Em (by omega),set_far Ev (by omega),set_ownR (ko (by decide) h.rul) oJ (by decide),set_ownR (ko (by decide) h.lin) oJ (by decide),K7,CK.setCell (show w.heap.size<=g3 by omega) _,pn,cn,zr++[[.string z.name,.slice pe z.eras.length ce]],set_heap oJ,by simp[hl],fun x hx=>?_,fun u hu=>?_,?_,fun j y hj hy=>?_⟩
 ·rcases List.mem_append.1 hx with hx|hx
  ·exact hq x hx
  ·simp at hx;subst hx;rfl
 ·rw[List.flatten_append]at hu
  rcases List.mem_append.1 hu with hu|hu
  ·exact h1 u hu
  ·simp at hu
   rcases hu with rfl|rfl<;>rfl
 ·rw[List.flatten_append]
  exact set_ownR (by simpa using hn) oJ (by decide)
 ·rcases Nat.lt_or_ge j i with Ca|Ca
  ·obtain⟨e,ND,k1,k2⟩:=YN j y Ca hy
   exact⟨e,ND,by rw[lgl (by omega)];exact k1,set_ownR (ko (by decide) k2) oJ (by decide)⟩
  ·obtain rfl:j=i:=by omega
   rw[hz]at hy
   obtain rfl:=osi hy
   exact⟨pe,ce,by rw[List.getElem?_append_right (by omega),hl];simp,set_ownR (ko (by decide) he) oJ (by decide)⟩
theorem kh_zone{W W':World}{base g n:Nat}{v:Value}{xs:List Value}{cs:Array Value}{t:TypeId}(ho:W.ownsRow base 153 2 v n xs)(hg:W.grownBy W' v.ownBlock)(hx:W.heap[g]? =some (.cells cs t (0,0)))(ht:t≠153):W'.heap[g]? =some (.cells cs t (0,0)):=(hg.block g (heap_lt hx) (fun e=>by
 obtain⟨ds,hd⟩:=own_blkW ho e.symm
 rw[hx]at hd
 simp at hd
 exact ht hd.2)).trans hx
theorem cells_of{w:World}{g:Nat}{l:List Value}{t:TypeId}(h:w.heap[g]? =some (.cells l.toArray t (0,0))):∀j u,l[j]? =some u->w.cell? (((ad g 0):Addr).add j)=some u:=fun j u hu=>by
 rw[addP,Nat.zero_add]
 exact(varC_of h).c j hu
theorem own_agree{w w':World}{base:Nat}{e:TypeId}{q:Nat}{v:Value}{n:Nat}{xs:List Value}(h:w.ownsRow base e q v n xs)(hk:∀k cs,base<=k->w.heap[k]? =some (.cells cs e (0,0))->w'.heap[k]? =some (.cells cs e (0,0))):w'.ownsRow base e q v n xs:=by
 refine⟨h.1,?_⟩
 rcases h.2 with h1|⟨g,c,cur,h1,h2,h3,h4⟩
 ·exact .inl h1
 ·exact .inr ⟨g,c,cur,h1,h2,hk g _ h2 h3,h4⟩
def RowT(t:TypeId):Prop:=t=149\/t=153\/t=187\/t=155
def RelFrom(B:Nat)(w:World)(v:Value)(r:RelD):Prop:=∀W':World,(∀k cs t,RowT t->B<=k->w.heap[k]? =some (.cells cs t (0,0))->W'.heap[k]? =some (.cells cs t (0,0)))->Zd W' v r
theorem RelFrom.at{B:Nat}{w:World}{v:Value}{r:RelD}(h:RelFrom B w v r):Zd w v r:=h w fun _ _ _ _ _ h=>h
theorem RelFrom.keep{B:Nat}{w w':World}{v:Value}{r:RelD}(h:RelFrom B w v r)(hk:∀k cs t,RowT t->B<=k->w.heap[k]? =some (.cells cs t (0,0))->w'.heap[k]? =some (.cells cs t (0,0))):RelFrom B w' v r:=fun W' hW=>h W' fun k cs t ht h1 h2=>hW k cs t ht h1 (hk k cs t ht h1 h2)
theorem RelFrom.below{B:Nat}{w w':World}{v:Value}{r:RelD}(h:RelFrom B w v r)(hb:Bw w w'):RelFrom B w' v r:=h.keep fun k _ _ _ _ h2=>(hb.block k (heap_lt h2)).trans h2
theorem R5P.done{w W:World}{a b c nr nz nl g3 c8 cm:Nat}{rn ln:List Value}{p8 am:Option Addr}{r:RelD}(h:R5P w W a b c nr nz nl rn ln r.zones g3 p8 c8 am cm nz)(he:(r.rules.map RuleD.cs).flatten=rn/\(r.links.map LinkD.cs).flatten=ln/\r.rules.length=nr/\r.links.length=nl/\r.zones.length=nz):∃pz cz,W.heap[g3]? =some (.cells #[.slice p8 nr c8,.slice pz nz cz,.slice am nl cm] 36 (0,0))/\∀v0 v1 v2,RelFrom w.heap.size (((W.setCell (ad (w.heap.size+1) 0) v0).setCell (ad (w.heap.size+1) 1) v1).setCell (ad (w.heap.size+1) 2) v2) (.agg #[.slice p8 nr c8,.slice pz nz cz,.slice am nl cm]) r/\Bw w (((W.setCell (ad (w.heap.size+1) 0) v0).setCell (ad (w.heap.size+1) 1) v1).setCell (ad (w.heap.size+1) 2) v2):=by
 obtain⟨pz,cz,zr,h1,h2,h3,h4,h5,h6⟩:=h.ex
 obtain⟨rfl,rfl,rfl,rfl,rfl⟩:=he
 refine⟨pz,cz,h1,fun v0 v1 v2=>?_⟩
 have k1:=set_heap (j:=0) (v:=v0) h.res
 have k2:=set_heap (j:=1) (v:=v1) k1
 have sq:∀{W':World} {base:Nat} {t:TypeId} {q n cap:Nat} {p:Option Addr} {rows:List (List Value)},(∀x∈rows,x.length=q)->rows.length=n->W'.ownsRow base t q (.slice p n cap) n rows.flatten->Za W' p q rows:=fun {W' base t q n cap p rows} hq hl ho=>by
  subst hl
  obtain⟨a',c',he,hs,_⟩:=jbe ho hq
  injection he with he
  rw[he];exact hs
 refine⟨fun W' hW=>?_,((h.bel.setCell (show w.heap.size<=w.heap.size+1 by omega) _).setCell (show w.heap.size<=w.heap.size+1 by omega) _).setCell (show w.heap.size<=w.heap.size+1 by omega) _⟩
 have ko:∀{t:TypeId} {q:Nat} {v:Value} {n:Nat} {xs:List Value},t≠36->RowT t->W.ownsRow (w.heap.size+1+1) t q v n xs->W'.ownsRow (w.heap.size+1+1) t q v n xs:=fun ht hT hx=>own_agree (set_ownR (set_ownR (set_ownR hx h.res ht) k1 ht) k2 ht) fun k cs g1 g2=>hW k cs _ hT (by omega) g2
 refine⟨p8,pz,am,c8,cz,cm,rfl,sq (jlb (cs:=RuleD.cs) (fun _=>rfl) _) (by simp) (ko (by decide) (.inl rfl) h.rul),?_,sq (jlb (cs:=LinkD.cs) (fun _=>rfl) _) (by simp) (ko (by decide) (.inr (.inr (.inr rfl))) h.lin)⟩
 rcases sq h3 h2 (ko (by decide) (.inr (.inl rfl)) h5)with hn|⟨g,o,rfl,hc⟩
 ·refine .inl (List.length_eq_zero_iff.mp ?_)
  rw[<- h2,hn];rfl
 ·refine .inr ⟨g,o,rfl,fun i z hz=>?_⟩
  obtain⟨e,ce,q1,q2⟩:=h6 i z (List.getElem?_eq_some_iff.1 hz).1 hz
  exact⟨by simpa using hc i 0 _ _ q1 rfl,_,by simpa using hc i 1 _ _ q1 rfl,e,ce,rfl,sq (jlb (cs:=EraD.cs) (fun _=>rfl) _) (by simp) (ko (by decide) (.inr (.inr (.inl rfl))) q2)⟩
theorem R1P.start{w wx:World}{a b c nr nz nl g3 c8 cm:Nat}{rn ln:List Value}{p8 am:Option Addr}(zs:List ZoneD)(h:R1P w wx a b c nr nz nl rn ln g3 p8 c8 am cm):R5P w wx a b c nr nz nl rn ln zs g3 p8 c8 am cm 0:=⟨h.par,h.res,h.rul,h.lin,h.ge,h.bel,none,0,[],h.var,rfl,fun x hx=>by simp at hx,fun x hx=>by simp at hx,World.ownsRow_nil _ _ _ _,fun j z hj=>by omega⟩
section
open Go.RowKit Go.Sort
section
variable {P : Program} {oL : Array Oper} {Q : Exit -> Act -> World -> Prop} {md : Region.Mode} {S : World -> Prop} {pi : Nat} {mr : Array Bool} {a : Act} {w : World} {o o2 o3 : Oper}
theorem rdy1(i:Nat)(hr:Region.ready md oL mr=[i])(ho:oL[i]? =some o)(h:∀K:Act->World->Prop,Shut (∀a w,S w->(S w->wpAnyH P md oL Q S pi (mr.setIfInBounds i true) a w)->K a w)->if Region.wanted o (yielded oL a.tmps)=true then Oper.wp P o a w K Q else K (a.put o.dst undef) w):wpAnyH P md oL Q S (pi+1) mr a w:=wpAnyH_ready hr (by simp) (AllReadyH.cons ho h AllReadyH.nil)
theorem rdy2(i j:Nat)(hr:Region.ready md oL mr=[i,j])(ho:oL[i]? =some o)(yd:oL[j]? =some o2)(h:∀K:Act->World->Prop,Shut (∀a w,S w->(S w->wpAnyH P md oL Q S pi (mr.setIfInBounds i true) a w)->K a w)->if Region.wanted o (yielded oL a.tmps)=true then Oper.wp P o a w K Q else K (a.put o.dst undef) w)(h2:∀K:Act->World->Prop,Shut (∀a w,S w->(S w->wpAnyH P md oL Q S pi (mr.setIfInBounds j true) a w)->K a w)->if Region.wanted o2 (yielded oL a.tmps)=true then Oper.wp P o2 a w K Q else K (a.put o2.dst undef) w):wpAnyH P md oL Q S (pi+1) mr a w:=wpAnyH_ready hr (by simp) (AllReadyH.cons ho h (AllReadyH.cons yd h2 AllReadyH.nil))
theorem rdy3(i j k:Nat)(hr:Region.ready md oL mr=[i,j,k])(ho:oL[i]? =some o)(yd:oL[j]? =some o2)(pm:oL[k]? =some o3)(h:∀K:Act->World->Prop,Shut (∀a w,S w->(S w->wpAnyH P md oL Q S pi (mr.setIfInBounds i true) a w)->K a w)->if Region.wanted o (yielded oL a.tmps)=true then Oper.wp P o a w K Q else K (a.put o.dst undef) w)(h2:∀K:Act->World->Prop,Shut (∀a w,S w->(S w->wpAnyH P md oL Q S pi (mr.setIfInBounds j true) a w)->K a w)->if Region.wanted o2 (yielded oL a.tmps)=true then Oper.wp P o2 a w K Q else K (a.put o2.dst undef) w)(h3:∀K:Act->World->Prop,Shut (∀a w,S w->(S w->wpAnyH P md oL Q S pi (mr.setIfInBounds k true) a w)->K a w)->if Region.wanted o3 (yielded oL a.tmps)=true then Oper.wp P o3 a w K Q else K (a.put o3.dst undef) w):wpAnyH P md oL Q S (pi+1) mr a w:=wpAnyH_ready hr (by simp) (AllReadyH.cons ho h (AllReadyH.cons yd h2 (AllReadyH.cons pm h3 AllReadyH.nil)))
end
def RowF(w:World)(a q n:Nat)(l:List Value):Prop:=l.length=n*q/\(∀W,Bw w W->∀j u,l[j]? =some u->W.cell? (((ad a 0):Addr).add j)=some u)/\∀u∈l,u.oneCell'=true
theorem app_new {w W:World} {oL:Array Oper} {o:Oper} {a:Act} {K:Act->World->Prop} {Q:Exit->Act->World->Prop} {E:Prop} {base g m pa q bytes:Nat} {e:TypeId} {z:Value} {cq:List Value} (s x:Operand) (t:TypeId) (oz:o.guard=none)
  (ho:o.op=.call { callee:=.builtin .append,args:=#[s,x],argTypes:=#[t,t] }) (ht:Tryz.prog.underlying t=some (.slice e)) (hi:∃i:TypeInfo,Tryz.prog.info? e=some i/\i.zero=some z/\i.size=q/\i.bytes=bytes) (hz:z.cells.size=q) (hq:0<q) (hy:bytes<=104)
  (hs:a.eval s=so g 0 0) (hd:W.heap[g]? =some (.cells #[] e (0,0))) (K7:base<=g) (hx:a.eval x=so pa m m) (hF:RowF w pa q m cq) (hb:Bw w W) (hm:m<=1048576)
  (h:∀p c W',W'.ownsRow base e q (.slice p m c) m cq->W.grownBy W' (some g)->K (a.put o.dst (.slice p m c)) W'):
  if Region.wanted o (yielded oL a.tmps)=true then Oper.wp Tryz.prog o a W K Q else E:=by
 obtain⟨i,i0,i1,i2,i3⟩:=hi
 have hl:=heap_lt hd
 have Kl:(0+m)*bytes<=140737488355328:=Nat.le_trans (Nat.mul_le_mul (by omega:0+m<=1048576) hy) (by omega)
 refine step_append_own oz s x t ho base e i z q bytes ht i0 i1 i2 i3 hz hq _ 0 [] hs (own_made hd K7) (ad pa 0) m m cq hx hF.1 (hF.2.1 _ hb) hF.2.2 (by unfold maxLen;omega) Kl (by omega) ?_
 intro v W' h1 h2
 rw[List.nil_append,Nat.zero_add]at h1
 obtain⟨p,c,rfl⟩:=own_shape2 h1
 exact h p c W' h1 h2
structure R0P(w W:World)(a b c nr nz nl:Nat)(rn ln:List Value)(d5 d9 v3:Option Nat)(o8 kT:Option (Option Addr × Nat)):Prop where
 par:W.heap[w.heap.size]? =some (.cells #[so a nr nr,so b nz nz,so c nl nl] 36 (0,0))
 res:W.heap[w.heap.size+1]? =some (.cells #[nS,nS,nS] 36 (0,0))
 bel:Bw w W
 k5:∀g,d5=some g->W.heap[g]? =some (.cells #[] 149 (0,0))/\w.heap.size+1+1<=g
 k9:∀g,d9=some g->W.heap[g]? =some (.cells #[] 155 (0,0))/\w.heap.size+1+1<=g
 k3:∀g,v3=some g->W.heap[g]? =some (.cells #[nS,nS,nS] 36 (0,0))/\w.heap.size+1+1<=g
 k8:∀p c,o8=some (p,c)->W.ownsRow (w.heap.size+1+1) 149 9 (.slice p nr c) nr rn
 k12:∀p c,kT=some (p,c)->W.ownsRow (w.heap.size+1+1) 155 2 (.slice p nl c) nl ln
section
variable {w W W' : World} {a b c nr nz nl g : Nat} {rn ln : List Value} {d5 d9 v3 : Option Nat} {o8 kT : Option (Option Addr × Nat)} {p : Option Addr} {cp : Nat}
theorem R0P.S(h:R0P w W a b c nr nz nl rn ln d5 d9 v3 o8 kT):W.cell? (ad w.heap.size 0)=some (so a nr nr)/\W.cell? (ad w.heap.size 2)=some (so c nl nl):=⟨(varC_of h.par).c 0 rfl,(varC_of h.par).c 2 rfl⟩
theorem R0P.all(h:R0P w W a b c nr nz nl rn ln d5 d9 v3 o8 kT)(o:Obj):R0P w (W.alloc o) a b c nr nz nl rn ln d5 d9 v3 o8 kT:=⟨heap_old h.par,heap_old h.res,bal0 h.bel,fun g e=>⟨heap_old (h.k5 g e).1,(h.k5 g e).2⟩,fun g e=>⟨heap_old (h.k9 g e).1,(h.k9 g e).2⟩,fun g e=>⟨heap_old (h.k3 g e).1,(h.k3 g e).2⟩,fun p c e=>woa (h.k8 p c e) o,fun p c e=>woa (h.k12 p c e) o⟩
theorem R0P.al5(h:R0P w W a b c nr nz nl rn ln d5 d9 v3 o8 kT):R0P w (W.alloc (.cells #[] 149)) a b c nr nz nl rn ln (some W.heap.size) d9 v3 o8 kT:=
 have k:=h.all (.cells #[] 149)
 ⟨k.par,k.res,k.bel,fun g e=>by cases e;exact⟨heap_alloc_new W _,le_two h.res⟩,k.k9,k.k3,k.k8,k.k12⟩
theorem R0P.al9(h:R0P w W a b c nr nz nl rn ln d5 d9 v3 o8 kT):R0P w (W.alloc (.cells #[] 155)) a b c nr nz nl rn ln d5 (some W.heap.size) v3 o8 kT:=
 have k:=h.all (.cells #[] 155)
 ⟨k.par,k.res,k.bel,k.k5,fun g e=>by cases e;exact⟨heap_alloc_new W _,le_two h.res⟩,k.k3,k.k8,k.k12⟩
theorem R0P.al3(h:R0P w W a b c nr nz nl rn ln d5 d9 v3 o8 kT):R0P w (W.alloc (.cells #[nS,nS,nS] 36)) a b c nr nz nl rn ln d5 d9 (some W.heap.size) o8 kT:=
 have k:=h.all (.cells #[nS,nS,nS] 36)
 ⟨k.par,k.res,k.bel,k.k5,k.k9,fun g e=>by cases e;exact⟨heap_alloc_new W _,le_two h.res⟩,k.k8,k.k12⟩
theorem R0P.step8 {oL:Array Oper} {o:Oper} {ac:Act} {K:Act->World->Prop} {Q:Exit->Act->World->Prop} {E:Prop} (h:R0P w W a b c nr nz nl rn ln (some g) d9 v3 none kT) (hF:RowF w a 9 nr rn) (hm:nr<=1048576) (oz:o.guard=none)
  (ho:o.op=.call { callee:=.builtin .append,args:=#[.tmp 5,.tmp 7],argTypes:=#[32,32] }) (hs:ac.eval (.tmp 5)=so g 0 0) (hx:ac.eval (.tmp 7)=so a nr nr)
  (hh:∀p cp W',R0P w W' a b c nr nz nl rn ln none d9 v3 (some (p,cp)) kT->K (ac.put o.dst (.slice p nr cp)) W'):if Region.wanted o (yielded oL ac.tmps)=true then Oper.wp Tryz.prog o ac W K Q else E:=by
 obtain⟨hd,K7⟩:=h.k5 g rfl
 exact app_new _ _ _ oz ho Tryz.underlying32 jr3 rfl (by omega) (by omega) hs hd K7 hx hF h.bel hm fun p cp W' h1 hg=>hh p cp W' ⟨heap_keptR h.par hg (by omega),heap_keptR h.res hg (by omega),bel_grown2 h.bel hg K7,fun g e=>(by cases e),fun g e=>⟨heap_keptR (h.k9 g e).1 hg (heap_ne (h.k9 g e).1 hd (by simp)),(h.k9 g e).2⟩,fun g e=>⟨heap_keptR (h.k3 g e).1 hg (heap_ne (h.k3 g e).1 hd (by simp)),(h.k3 g e).2⟩,fun p c e=>by cases e;exact h1,fun p c e=>own_other (h.k12 p c e) hg hd (by decide)⟩
theorem R0P.step12 {oL:Array Oper} {o:Oper} {ac:Act} {K:Act->World->Prop} {Q:Exit->Act->World->Prop} {E:Prop} (h:R0P w W a b c nr nz nl rn ln d5 (some g) v3 o8 none) (hF:RowF w c 2 nl ln) (hm:nl<=1048576) (oz:o.guard=none)
  (ho:o.op=.call { callee:=.builtin .append,args:=#[.tmp 9,.tmp 11],argTypes:=#[34,34] }) (hs:ac.eval (.tmp 9)=so g 0 0) (hx:ac.eval (.tmp 11)=so c nl nl)
  (hh:∀p cp W',R0P w W' a b c nr nz nl rn ln d5 none v3 o8 (some (p,cp))->K (ac.put o.dst (.slice p nl cp)) W'):if Region.wanted o (yielded oL ac.tmps)=true then Oper.wp Tryz.prog o ac W K Q else E:=by
 obtain⟨hd,K7⟩:=h.k9 g rfl
 exact app_new _ _ _ oz ho Tryz.underlying34 jr4 rfl (by omega) (by omega) hs hd K7 hx hF h.bel hm fun p cp W' h1 hg=>hh p cp W' ⟨heap_keptR h.par hg (by omega),heap_keptR h.res hg (by omega),bel_grown2 h.bel hg K7,fun g e=>⟨heap_keptR (h.k5 g e).1 hg (heap_ne (h.k5 g e).1 hd (by simp)),(h.k5 g e).2⟩,fun g e=>(by cases e),fun g e=>⟨heap_keptR (h.k3 g e).1 hg (heap_ne (h.k3 g e).1 hd (by simp)),(h.k3 g e).2⟩,fun p c e=>own_other (h.k8 p c e) hg hd (by decide),fun p c e=>by cases e;exact h1⟩
end
def E1(W0 W:World)(g:Nat):Prop:=Bw W0 W/\W.heap[g]? =some (.cells #[] 187 (0,0))/\W0.heap.size<=g
def E2(w W0 W:World)(z:ZoneD)(p:Option Addr)(c:Nat):Prop:=Bw W0 W/\W.ownsRow (w.heap.size+1+1) 187 6 (.slice p z.eras.length c) z.eras.length (z.eras.map EraD.cs).flatten
def E3(w W0 W:World)(z:ZoneD)(p:Option Addr)(c g:Nat):Prop:=Bw W0 W/\W.ownsRow (w.heap.size+1+1) 187 6 (.slice p z.eras.length c) z.eras.length (z.eras.map EraD.cs).flatten/\W.heap[g]? =some (.cells #[.string z.name,.slice p z.eras.length c] 153 (0,0))
theorem E1.new{W0 W:World}(h:Bw W0 W):E1 W0 (W.alloc (.cells #[] 187)) W.heap.size:=⟨bal0 h,heap_alloc_new W _,h.size⟩
theorem E2.new{w W0 W:World}{z:ZoneD}{p:Option Addr}{c:Nat}(h:E2 w W0 W z p c):E3 w W0 (W.alloc (.cells #[.string z.name,.slice p z.eras.length c] 153)) z p c W.heap.size:=⟨bal0 h.1,woa h.2 _,heap_alloc_new W _⟩
theorem E1.step {w W0 W:World} {g qe:Nat} {z:ZoneD} {oL:Array Oper} {o:Oper} {ac:Act} {K:Act->World->Prop} {Q:Exit->Act->World->Prop} {E:Prop} (h:E1 W0 W g) (hb:Bw w W0) (h2:w.heap.size+1+1<=W0.heap.size) (hF:RowF w qe 6 z.eras.length (z.eras.map EraD.cs).flatten) (hm:z.eras.length<=1048576) (oz:o.guard=none)
  (ho:o.op=.call { callee:=.builtin .append,args:=#[.tmp 29,.tmp 35],argTypes:=#[151,151] }) (hs:ac.eval (.tmp 29)=so g 0 0) (hx:ac.eval (.tmp 35)=so qe z.eras.length z.eras.length)
  (hh:∀p c W',E2 w W0 W' z p c->K (ac.put o.dst (.slice p z.eras.length c)) W'):if Region.wanted o (yielded oL ac.tmps)=true then Oper.wp Tryz.prog o ac W K Q else E:=by
 have K7:=h.2.2
 exact app_new _ _ _ oz ho Tryz.underlying151 jqj rfl (by omega) (by omega) hs h.2.1 (by omega) hx hF (hb.trans (h.1.mono hb.size)) hm fun p c W' h1 hg=>hh p c W' ⟨h.1.grown hg h.1.size (fun k hk=>by injection hk with hk;omega),h1⟩
