import Derived.Test.YtpejeokacilebaaGreatDoorHpQd
set_option maxRecDepth 20000
set_option maxHeartbeats 0
set_option linter.unusedSimpArgs false
open Go.RowKit Go.Sort
namespace Go.Proofs.YtpejeokacilebaaGreatDoor
def LeW(a b:WallD):Prop:=a.wall<b.wall\/(a.wall=b.wall/\a.place<=b.place)
def ltW(a b:WallD):Bool:=if a.wall=b.wall then decide (a.place<b.place)else decide (a.wall<b.wall)
theorem j18{a b:WallD}(h:ltW a b=true):LeW a b:=by
 unfold ltW at h
 unfold LeW
 split at h
 ·have:=odt h;omega
 ·have:=odt h;omega
theorem jv1{a b:WallD}(h:ltW a b=false):LeW b a:=by
 unfold ltW at h
 unfold LeW
 split at h
 ·have:=of_decide_eq_false h;omega
 ·have:=of_decide_eq_false h;omega
theorem le_trans{a b c:WallD}(h:LeW a b)(h2:LeW b c):LeW a c:=by unfold LeW at *;omega
theorem le_refl(a:WallD):LeW a a:=by unfold LeW;omega
def jay(X:List WallD)(i j:Nat)(a b:WallD):List WallD:=(X.set i b).set j a
theorem jei(X:List WallD)(i j:Nat)(a b:WallD):(jay X i j a b).length=X.length:=by unfold jay;simp
theorem j00{X:List WallD}{i j:Nat}{a b:WallD}(eF:i≠j)(hi:i<X.length):(jay X i j a b)[i]? =some b:=by
 unfold jay
 rw[List.getElem?_set_ne (by omega),List.getElem?_set_self hi]
theorem jrf{X:List WallD}{i j:Nat}{a b:WallD}(hj:j<X.length):(jay X i j a b)[j]? =some a:=by
 unfold jay
 rw[List.getElem?_set_self (by simpa using hj)]
theorem ju8{X:List WallD}{i j k:Nat}{a b:WallD}(h1:k≠i)(h2:k≠j):(jay X i j a b)[k]? =X[k]? :=by
 unfold jay
 rw[List.getElem?_set_ne (by omega),List.getElem?_set_ne (by omega)]
theorem jh1{X:List WallD}{i j:Nat}{a b:WallD}(ha:X[i]? =some a)(hb:X[j]? =some b):(jay X i j a b).Perm X:=by
 obtain⟨h1,rfl⟩:=lgs ha
 obtain⟨h2,rfl⟩:=lgs hb
 exact List.set_set_perm h1 h2
def jc1(X:List WallD):Prop:=∀i p c,0<i->X[(i-1) / 2]? =some p->X[i]? =some c->LeW p c
theorem jzy{X:List WallD}(h:jc1 X){x0:WallD}(h0:X[0]? =some x0):∀(n i:Nat) (y:WallD),i<=n->X[i]? =some y->LeW x0 y:=by
 intro n
 induction n with
 |zero=>intro i y hi hy;obtain rfl:i=0:=(by omega);rw[h0]at hy;obtain rfl:=osi hy;exact le_refl _
 | succ n ih=>
  intro i y hi hy
  by_cases e:i=0
  ·subst e;rw[h0]at hy;obtain rfl:=osi hy;exact le_refl _
  ·have i7:=(lgs hy).1
   obtain⟨p,hp⟩:∃p,X[(i-1) / 2]? =some p:=⟨_,lgg (by omega)⟩
   exact le_trans (ih _ p (by omega) hp) (h i p y (by omega) hp hy)
structure UpX(X:List WallD)(k:Nat):Prop where
 one:∀i p c,0<i->i≠k->X[(i-1) / 2]? =some p->X[i]? =some c->LeW p c
 two:∀i p c,0<i->0<k->(i-1) / 2=k->X[(k-1) / 2]? =some p->X[i]? =some c->LeW p c
theorem jyg{X:List WallD}{x:WallD}(h:jc1 X):UpX (X++[x]) X.length:=by
 have low:∀{i:Nat} {c:WallD},i≠X.length->(X++[x])[i]? =some c->i<X.length/\X[i]? =some c:=fun {i c} hi hc=>by
  have hl:=(lgs hc).1
  rw[lla]at hl
  simp at hl
  rw[lgl (by omega)]at hc
  exact⟨by omega,hc⟩
 refine⟨fun i p c h0 hk hp hc=>?_,fun i p c h0 hk he hp hc=>?_⟩
 ·obtain⟨hl,uP⟩:=low hk hc
  obtain⟨_,lG⟩:=low (by omega) hp
  exact h i p c h0 lG uP
 ·have hl:=(lgs hc).1
  rw[lla]at hl
  simp at hl
  omega
theorem j1i{X:List WallD}(h:UpX X 0):jc1 X:=fun i p c h0 hp hc=>h.one i p c h0 (by omega) hp hc
theorem j1g{X:List WallD}{k:Nat}{p c:WallD}(h:UpX X k)(hp:X[(k-1) / 2]? =some p)(hc:X[k]? =some c)(cr:LeW p c):jc1 X:=fun i p' c' h0 lG uP=>by
 by_cases e:i=k
 ·subst e
  rw[hp]at lG
  rw[hc]at uP
  obtain rfl:=osi lG
  obtain rfl:=osi uP
  exact cr
 ·exact h.one i p' c' h0 e lG uP
theorem j1h{X:List WallD}{k:Nat}{p c:WallD}(h:UpX X k)(hk:0<k)(hp:X[(k-1) / 2]? =some p)(hc:X[k]? =some c)(cr:LeW c p):UpX (jay X k ((k-1) / 2) c p) ((k-1) / 2):=by
 have eY:=(lgs hc).1
 have Ct:(k-1) / 2<k:=by omega
 obtain⟨q,hq⟩:=qeb ((k-1) / 2)
 rw[hq]at hp Ct ⊢
 have ek:(jay X k q c p)[k]? =some p:=j00 (by omega) eY
 have eq:(jay X k q c p)[q]? =some c:=jrf (by omega)
 have eo:∀{i:Nat},i≠k->i≠q->(jay X k q c p)[i]? =X[i]? :=fun h1 h2=>ju8 h1 h2
 refine⟨fun i a b h0 hi ha hb=>?_,fun i a b h0 sJ hi ha hb=>?_⟩
 ·by_cases e1:i=k
  ·subst e1
   rw[ek]at hb
   rw[hq,eq]at ha
   obtain rfl:=osi ha
   obtain rfl:=osi hb
   exact cr
  ·rw[eo e1 hi]at hb
   by_cases e2:(i-1) / 2=k
   ·rw[e2,ek]at ha
    obtain rfl:=osi ha
    exact h.two i p b h0 hk e2 (by rw[hq];exact hp) hb
   ·by_cases e3:(i-1) / 2=q
    ·rw[e3,eq]at ha
     obtain rfl:=osi ha
     exact le_trans cr (h.one i p b h0 e1 (by rw[e3];exact hp) hb)
    ·rw[eo e2 e3]at ha
     exact h.one i a b h0 e1 ha hb
 ·have hg:(q-1) / 2<q:=by omega
  rw[eo (by omega) (by omega)]at ha
  have FV:=h.one q a p sJ (by omega) ha hp
  by_cases e1:i=k
  ·subst e1
   rw[ek]at hb
   obtain rfl:=osi hb
   exact FV
  ·rw[eo e1 (by omega)]at hb
   exact le_trans FV (h.one i p b h0 e1 (by rw[hi];exact hp) hb)
structure DnX(X:List WallD)(k:Nat):Prop where
 one:∀i p c,0<i->(i-1) / 2≠k->X[(i-1) / 2]? =some p->X[i]? =some c->LeW p c
 two:∀i p c,0<i->0<k->(i-1) / 2=k->X[(k-1) / 2]? =some p->X[i]? =some c->LeW p c
theorem j2q{X:List WallD}{k:Nat}(h:DnX X k)(hc:∀i p c,0<i->(i-1) / 2=k->X[k]? =some p->X[i]? =some c->LeW p c):jc1 X:=fun i p c h0 hp fx=>by
 by_cases e:(i-1) / 2=k
 ·exact hc i p c h0 e (by rw[<- e];exact hp) fx
 ·exact h.one i p c h0 e hp fx
theorem j2r{X:List WallD}{k f:Nat}{p c:WallD}(h:DnX X k)(gC:0<f)(BZ:(f-1) / 2=k)(hp:X[k]? =some p)(hc:X[f]? =some c)(cr:LeW c p)(Ci:∀i y,0<i->(i-1) / 2=k->X[i]? =some y->LeW c y):DnX (jay X k f p c) f:=by
 have D4:=(lgs hc).1
 have OY:k<f:=by omega
 have ek:(jay X k f p c)[k]? =some c:=j00 (by omega) (by omega)
 have ef:(jay X k f p c)[f]? =some p:=jrf D4
 have eo:∀{i:Nat},i≠k->i≠f->(jay X k f p c)[i]? =X[i]? :=fun h1 h2=>ju8 h1 h2
 refine⟨fun i a b h0 hi ha hb=>?_,fun i a b h0 _ hi ha hb=>?_⟩
 ·by_cases e1:(i-1) / 2=k
  ·rw[e1,ek]at ha
   obtain rfl:=osi ha
   by_cases e2:i=f
   ·subst e2
    rw[ef]at hb
    obtain rfl:=osi hb
    exact cr
   ·rw[eo (by omega) e2]at hb
    exact Ci i b h0 e1 hb
  ·have K9:i≠f:=fun e=>e1 (by rw[e];exact BZ)
   rw[eo e1 hi]at ha
   by_cases e2:i=k
   ·subst e2
    rw[ek]at hb
    obtain rfl:=osi hb
    exact h.two f a c gC h0 BZ ha hc
   ·rw[eo e2 K9]at hb
    exact h.one i a b h0 e1 ha hb
 ·rw[BZ,ek]at ha
  obtain rfl:=osi ha
  rw[eo (by omega) (by omega)]at hb
  exact h.one i c b h0 (by omega) (by rw[hi];exact hc) hb
theorem j0g{X:List WallD}{n:Nat}{x z:WallD}(h:jc1 X):DnX ((jay X 0 n x z).take n) 0:=by
 refine⟨fun i p c h0 hi hp hc=>?_,fun i p c h0 hk=>by omega⟩
 have low:∀{i:Nat} {c:WallD},i≠0->((jay X 0 n x z).take n)[i]? =some c->X[i]? =some c:=fun {i c} hi hc=>by
  have hl:=(lgs hc).1
  rw[List.length_take]at hl
  rw[List.getElem?_take_of_lt (by omega),ju8 hi (by omega)]at hc
  exact hc
 exact h i p c h0 (low hi hp) (low (by omega) hc)
theorem jy3{X:List WallD}{n:Nat}{x z:WallD}(hn:X.length=n+1)(hx:X[0]? =some x)(hz:X[n]? =some z):X.Perm (x::(jay X 0 n x z).take n):=by
 have h1:=(jh1 hx hz).symm
 have hl:(jay X 0 n x z).length=n+1:=by rw[jei,hn]
 have iL:(jay X 0 n x z)[n]? =some x:=jrf (by omega)
 have h2:jay X 0 n x z=(jay X 0 n x z).take n++[x]:=by
  have:=List.take_append_drop n (jay X 0 n x z)
  have hd:(jay X 0 n x z).drop n=[x]:=by
   rw[List.drop_eq_getElem_cons (by omega)]
   obtain⟨_,e⟩:=lgs iL
   rw[e,List.drop_eq_nil_of_le (by omega)]
  rw[hd]at this
  exact this.symm
 have h3:((jay X 0 n x z).take n++[x]).Perm (x::(jay X 0 n x z).take n):=List.perm_append_singleton x _
 rw[<- h2]at h3
 exact h1.trans h3
def WallD.v(x:WallD):Value:=.agg #[iv x.wall,iv x.place]
theorem jd9(x y:WallD)(w:World):
  Cl 309 #[x.v,y.v] w fun e w'=>e=.returned (.bool (ltW x y))/\Bw w w':=by
 obtain⟨xw,xp⟩:=x
 obtain⟨yw,yp⟩:=y
 simp only[WallD.v]
 by_cases h:xw=yw
 ·have HR:Hid (ltW ⟨xw,xp⟩ ⟨yw,yp⟩=decide (xp<yp)):=by simp only[Hid,ltW];rw[if_pos h]
  generalize ltW ⟨xw,xp⟩ ⟨yw,yp⟩=z at *
  subst h
  unfold Cl;go_in
  go_wp2
  go_ret
  exact⟨ret_bool (by rw[HR.out]),(qal _ _).alloc (by simp) _⟩
 ·have HR:Hid (ltW ⟨xw,xp⟩ ⟨yw,yp⟩=decide (xw<yw)):=by simp only[Hid,ltW];rw[if_neg h]
  have g:(xw != yw)=true:=by simpa using h
  generalize ltW ⟨xw,xp⟩ ⟨yw,yp⟩=z at *
  unfold Cl;go_in
  go_wp2
  go_ret
  exact⟨ret_bool HR.out.symm,(qal _ _).alloc (by simp) _⟩
def Zj(w:World)(base:Nat)(v:Value)(P:List WallD):Prop:=w.ownsRow base 306 2 v P.length (P.map WallD.cs).flatten
theorem jsb{q:Nat}:∀{rows:List (List Value)},(∀r∈rows,r.length=q)->∀{i j:Nat} {r:List Value} (c:Value),rows[i]? =some r->j<q->(rows.set i (r.set j c)).flatten=rows.flatten.set (i*q+j) c:=by
 intro rows
 induction rows with
 |nil=>intro _ i j r c h;simp at h
 | cons x rows ih=>
  intro hq i j r c hi hj
  have hx:=hq x (by simp)
  cases i with
  |zero=>
   simp at hi
   subst hi
   rw[List.set_cons_zero,List.flatten_cons,List.flatten_cons,Nat.zero_mul,Nat.zero_add,List.set_append_left _ _ (by omega)]
  |succ i=>
   rw[List.set_cons_succ,List.flatten_cons,List.flatten_cons,List.set_append_right _ _ (by rw[hx,Nat.add_mul];omega),hx]
   rw[show(i+1)*q+j-q=i*q+j by rw[Nat.add_mul];omega]
   rw[ih (fun y hy=>hq y (lmc _ hy)) c (by simpa using hi) hj]
theorem jo0{rows:List (List Value)}(hq:∀r∈rows,r.length=2){i:Nat}{r:List Value}(hr:rows[i]? =some r)(c0 c1:Value):(rows.set i [c0,c1]).flatten=(rows.flatten.set (i*2) c0).set (i*2+1) c1:=by
 have hl:=hq r (lmg hr)
 have i7:=(lgs hr).1
 have e1:=jsb hq (i:=i) (j:=0) c0 hr (by omega)
 have Tz:∀r'∈rows.set i (r.set 0 c0),r'.length=2:=fun r' h=>by
  rcases List.mem_or_eq_of_mem_set h with h|h
  ·exact hq r' h
  ·rw[h,List.length_set,hl]
 have e2:=jsb Tz (i:=i) (j:=1) (r:=r.set 0 c0) c1 (by rw[List.getElem?_set_self i7]) (by omega)
 rw[e1]at e2
 rw[Nat.add_zero]at e2
 rw[<- e2,List.set_set]
 congr 2
 match r,hl with
 |[x,y],_=>rfl
theorem ju9{X:List WallD}{i j:Nat}{a b:WallD}(ha:X[i]? =some a)(hb:X[j]? =some b):((jay X i j a b).map WallD.cs).flatten=(((((X.map WallD.cs).flatten.set (i*2) (iv b.wall)).set (i*2+1) (iv b.place)).set (j*2) (iv a.wall)).set (j*2+1) (iv a.place)):=by
 have i7:=(lgs ha).1
 have eP:=(lgs hb).1
 have e1:=jo0 (rows:=X.map WallD.cs) jbo (i:=i) (r:=a.cs) (by rw[lgm,ha];rfl) (iv b.wall) (iv b.place)
 have e0:(X.map WallD.cs).set i [iv b.wall,iv b.place]=(X.set i b).map WallD.cs:=by rw[List.map_set];rfl
 rw[e0]at e1
 obtain⟨c,hc⟩:∃c,(X.set i b)[j]? =some c:=⟨_,lgg (by simpa using eP)⟩
 have e2:=jo0 (rows:=(X.set i b).map WallD.cs) jbo (i:=j) (r:=c.cs) (by rw[lgm,hc];rfl) (iv a.wall) (iv a.place)
 rw[e1]at e2
 rw[<- e2]
 unfold jay
 rw[List.map_set]
 rfl
theorem jbf{w w1 w2:World}{row:Option Nat}(h:w.grownBy w1 row)(h2:w1.grownBy w2 row):w.grownBy w2 row:=
 ⟨h2.os.trans h.os,h2.tape.trans h.tape,h2.output.trans h.output,Nat.le_trans h.size h2.size,fun k hk hr=>(h2.block k (Nat.lt_of_lt_of_le hk h.size) hr).trans (h.block k hk hr)⟩
theorem jk4(w:World)(row:Option Nat):w.grownBy w.drew row:=⟨rfl,rfl,rfl,nlr _,fun _ _ _=>rfl⟩
theorem ju7{X:List WallD}{g cap i j base:Nat}{a b:WallD}{w:World}(ai:Zj w base (so g X.length cap) X)(ha:X[i]? =some a)(hb:X[j]? =some b):
  Zj ((((w.setCell (ad g (i*2)) (iv b.wall)).setCell (ad g (i*2+1)) (iv b.place)).setCell (ad g (j*2)) (iv a.wall)).setCell (ad g (j*2+1)) (iv a.place)).drew base (so g X.length cap) (jay X i j a b)/\
  w.grownBy ((((w.setCell (ad g (i*2)) (iv b.wall)).setCell (ad g (i*2+1)) (iv b.place)).setCell (ad g (j*2)) (iv a.wall)).setCell (ad g (j*2+1)) (iv a.place)).drew (some g):=by
 obtain⟨h1,g1⟩:=World.ownsRow.stored ai (i*2) (iv b.wall)
 obtain⟨h2,g2⟩:=h1.stored (i*2+1) (iv b.place)
 obtain⟨h3,g3⟩:=h2.stored (j*2) (iv a.wall)
 obtain⟨h4,g4⟩:=h3.stored (j*2+1) (iv a.place)
 refine⟨?_,jbf g1 (jbf g2 (jbf g3 (jbf g4 (jk4 _ _))))⟩
 unfold Zj
 rw[jei,ju9 ha hb]
 exact h4.drew
structure Fr(S:Nat->Prop)(w w':World):Prop where
 os:w'.os=w.os
 tape:w'.tape=w.tape
 output:w'.output=w.output
 size:w.heap.size<=w'.heap.size
 block:∀b,b<w.heap.size->¬S b->w'.heap[b]? =w.heap[b]?
theorem Fr.refl(S:Nat->Prop)(w:World):Fr S w w:=⟨rfl,rfl,rfl,nlr _,fun _ _ _=>rfl⟩
theorem Fr.trans{S:Nat->Prop}{w w1 w2:World}(h:Fr S w w1)(h2:Fr S w1 w2):Fr S w w2:=
 ⟨h2.os.trans h.os,h2.tape.trans h.tape,h2.output.trans h.output,Nat.le_trans h.size h2.size,fun b hb hs=>(h2.block b (Nat.lt_of_lt_of_le hb h.size) hs).trans (h.block b hb hs)⟩
theorem Fr.mono{S S2:Nat->Prop}{w w':World}(h:Fr S w w')(hs:∀b,b<w.heap.size->S b->S2 b):Fr S2 w w':=⟨h.os,h.tape,h.output,h.size,fun b hb hn=>h.block b hb fun hx=>hn (hs b hb hx)⟩
theorem Fr.of_below{S:Nat->Prop}{w w':World}(h:Bw w w'):Fr S w w':=⟨h.os,h.tape,h.output,h.size,fun b hb _=>h.block b hb⟩
theorem Fr.of_grown{w w':World}{row:Option Nat}(h:w.grownBy w' row):Fr (fun b=>row=some b) w w':=⟨h.os,h.tape,h.output,h.size,fun b hb hn=>h.block b hb fun e=>hn e.symm⟩
theorem Fr.cell{S:Nat->Prop}{w w':World}(h:Fr S w w'){b o:Nat}{v:Value}(hs:¬S b)(hc:w.cell? (ad b o)=some v):w'.cell? (ad b o)=some v:=by
 rw[World.cell?_of_block (h.block b (qbl hc) hs)];exact hc
theorem Fr.frozen{S:Nat->Prop}{w w':World}(h:Fr S w w'){b o:Nat}(hb:b<w.heap.size)(hs:¬S b):w'.frozen? (ad b o)=w.frozen? (ad b o):=World.frozen?_of_block (h.block b hb hs)
theorem Fr.below{S:Nat->Prop}{w w':World}{B:Nat}(h:Fr S w w')(hS:∀b,S b->B<=b)(hB:B<=w.heap.size):Below B w w':=⟨h.os,h.tape,h.output,h.size,fun k hk=>h.block k (by omega) fun hs=>by have:=hS k hs;omega⟩
theorem ji3(X:List WallD)(hp g cap i j base:Nat)(a b:WallD)(w:World)(aE:w.cell? (ad hp 0)=some (so g X.length cap))(ai:Zj w base (so g X.length cap) X)(ha:X[i]? =some a)(hb:X[j]? =some b)(eF:i≠j)(az:hp≠g):
  Cl 264 #[.pointer (some (ad hp 0)),iv i,iv j] w fun e w'=>e=.returned (.tuple #[])/\Zj w' base (so g X.length cap) (jay X i j a b)/\w.grownBy w' (some g):=by
 have i7:=(lgs ha).1
 have eP:=(lgs hb).1
 have fa:∀n c,a.cs[n]? =some c->w.cell? (ad g (i*2+n))=some c:=fun n c h=>by
  rw[ai.cellAt _ (by have:=(lgs h).1;simp[WallD.cs]at this;omega)]
  exact ja3 jbo (by rw[lgm,ha];rfl) h
 have fb:∀n c,b.cs[n]? =some c->w.cell? (ad g (j*2+n))=some c:=fun n c h=>by
  rw[ai.cellAt _ (by have:=(lgs h).1;simp[WallD.cs]at this;omega)]
  exact ja3 jbo (by rw[lgm,hb];rfl) h
 have a0:w.cell? (ad g (i*2))=some (iv a.wall):=fa 0 _ rfl
 have a1:w.cell? (ad g (i*2+1))=some (iv a.place):=fa 1 _ rfl
 have b0:w.cell? (ad g (j*2))=some (iv b.wall):=fb 0 _ rfl
 have b1:w.cell? (ad g (j*2+1))=some (iv b.place):=fb 1 _ rfl
 have z0:=ai.frozenAt (i*2)
 have z1:=ai.frozenAt (i*2+1)
 have z2:=ai.frozenAt (j*2)
 have z3:=ai.frozenAt (j*2+1)
 have bi:(0:Int)<=(i:Int):=by omega
 have NM:(i:Int)<(X.length:Int):=by omega
 have bj:(0:Int)<=(j:Int):=by omega
 have NN:(j:Int)<(X.length:Int):=by omega
 clear fa fb
 unfold Cl;go_in
 go_wp2_with fail
 have HO:=ju7 ai ha hb
 go_region
 exact bodyPost_end (results_none Tryz.results264 _ _ _) rfl ⟨rfl,HO⟩
theorem j2h:(Tryz.prog.info? 306).map (fun i=>(i.zero,i.size,i.bytes))=some (some (.agg #[iv 0,iv 0]),2,16):=by kernel_rfl
theorem Zj.add{w:World}{base:Nat}{v:Value}{P:List WallD}{p:WallD}(h:w.ownsRow base 306 2 v (P.length+1) ((P.map WallD.cs).flatten++p.cs)):Zj w base v (P++[p]):=by
 unfold Zj
 rw[lla,lma,List.flatten_append]
 simpa using h
def Zt(w:World)(hp:Nat)(rb:Option Nat)(X:List WallD):Prop:=∃a c,w.cell? (ad hp 0)=some (.slice a X.length c)/\w.frozen? (ad hp 0)=false/\Zj w hp (.slice a X.length c) X/\some hp≠(Value.slice a X.length c).ownBlock/\(Value.slice a X.length c).ownBlock=rb
theorem Zt.below{w w':World}{hp:Nat}{rb:Option Nat}{X:List WallD}(h:Zt w hp rb X)(hb:Bw w w'):Zt w' hp rb X:=by
 obtain⟨a,c,h1,h2,h3,h4⟩:=h
 have hlt:=qbl h1
 exact⟨a,c,jaa hb h1,((jaf hb).2 _ _ hlt).trans h2,jac h3 hb,h4⟩
theorem Zj.cells{w:World}{base g cap:Nat}{X:List WallD}(h:Zj w base (so g X.length cap) X){i:Nat}{x:WallD}(hx:X[i]? =some x):w.cell? (ad g (i*2))=some (iv x.wall)/\w.cell? (ad g (i*2+1))=some (iv x.place):=by
 have hl:=(lgs hx).1
 have f:∀n c,x.cs[n]? =some c->w.cell? (ad g (i*2+n))=some c:=fun n c hc=>by
  rw[World.ownsRow.cellAt h _ (by have:=(lgs hc).1;simp[WallD.cs]at this;omega)]
  exact ja3 jbo (by rw[lgm,hx];rfl) hc
 exact⟨f 0 _ rfl,f 1 _ rfl⟩
theorem jee (n : Nat) (a b : Int) (w : World) : (method (n + 1) 306 (.agg #[iv a, iv b]) "loop.example/g00364/impl.aheadOf").run Tryz.prog w = .ok (309, .agg #[iv a, iv b]) w := by kernel_rfl
theorem jds (a b : Int) (w : World) : (method (Tryz.prog.types.size + Made.depth) 306 (.agg #[iv a, iv b]) "loop.example/g00364/impl.aheadOf").run Tryz.prog w = .ok (309, .agg #[iv a, iv b]) w := by kernel_rfl
theorem jck(w:World)(b o:Nat)(v:Value):w.grownBy (w.setCell (ad b o) v) (some b):=
 ⟨rfl,rfl,rfl,by simp,fun k _ hk=>heap_setCell_other w (ad b o) k v (fun e=>hk (by simp[e]))⟩
theorem jnh{w1:World}{hp g1 n aC:Nat}{u:Value}{Y:List WallD}(r1:w1.cell? (ad hp 0)=some u)(r2:w1.frozen? (ad hp 0)=false)(ai:Zj w1 hp (so g1 n aC) Y)(az:hp≠g1):
  (w1.setCell (ad hp 0) (so g1 n aC)).cell? (ad hp 0)=some (so g1 n aC)/\(w1.setCell (ad hp 0) (so g1 n aC)).frozen? (ad hp 0)=false/\Zj (w1.setCell (ad hp 0) (so g1 n aC)) hp (so g1 n aC) Y:=by
 refine⟨wcs _ _ _ r1,by rw[World.frozen?_setCell];exact r2,World.ownsRow.kept ai (jck w1 hp 0 _) (.inr fun e=>az ?_)⟩
 simpa [Value.ownBlock]using e.symm
theorem jmg{w:World}{hp g cap:Nat}{Y:List WallD}(h1:w.cell? (ad hp 0)=some (so g Y.length cap))(h2:w.frozen? (ad hp 0)=false)(h3:Zj w hp (so g Y.length cap) Y)(az:hp≠g):Zt w hp (some g) Y:=
 ⟨_,_,h1,h2,h3,fun e=>az (by simpa [Value.ownBlock]using e),rfl⟩
theorem jok(X:List WallD)(x:WallD)(hp:Nat)(rb:Option Nat)(w:World)(hM:Zt w hp rb X)(hX:jc1 X)(hl:X.length<=4000):
  Cl 263 #[.pointer (some (ad hp 0)),x.v] w fun e w'=>e=.returned (.tuple #[])/\(∃Y gJ,Zt w' hp gJ Y/\jc1 Y/\Y.Perm (X++[x])/\(gJ=rb\/∃k,w.heap.size<=k/\gJ=some k))/\Fr (fun b=>b=hp\/rb=some b) w w':=by
 obtain⟨i0,hi,aG,aH,aF⟩:=info_parts j2h
 obtain⟨a,c,h1,h2,h3,h4,h5⟩:=hM
 have hlt:=qbl h1
 have HU:Hid (UpX (X++[x]) X.length):=jyg hX
 obtain⟨xw,xp⟩:=x
 simp only[WallD.v]
 have k1:(w.alloc (.cells #[iv xw,iv xp] 306)).cell? (ad hp 0)=some (.slice a X.length c):=jaa (qal w _) h1
 obtain⟨k2,k3⟩:(fun z:World=>z.cell? (ad w.heap.size 0)=some (iv xw)/\z.cell? (ad w.heap.size 1)=some (iv xp)) (w.alloc (.cells #[iv xw,iv xp] 306)):=by simp[go_sem]
 have k4:(w.alloc (.cells #[iv xw,iv xp] 306)).frozen? (ad hp 0)=false:=((jaf (qal w _)).2 _ _ hlt).trans h2
 have aS:Zj (w.alloc (.cells #[iv xw,iv xp] 306)) hp (.slice a X.length c) X:=woa h3 _
 unfold Cl;go_in
 go_wp2_with fail
 obtain⟨wA,cK⟩:=qeb ((w.alloc (.cells #[iv xw,iv xp] 306)))
 have eX:Bw w wA:=by rw[<- cK];exact qal w _
 rw[cK]at k1 k2 k3 k4 aS ⊢
 clear cK
 have ji:=eX.size
 have CT:(wA.alloc (.cells #[iv xw,iv xp] 306)).cell? (ad hp 0)=some (.slice a X.length c):=jaa (qal wA _) k1
 go_region_law (refine step_append_lies _ (by rfl) (.tmp 10) (.tmp 12) 302 (by rfl) hp 306 i0 (.agg #[iv 0,iv 0]) 2 16 Tryz.underlying302 hi aG aH aF rfl (by omega) (.slice a X.length c) X.length (X.map WallD.cs).flatten (by rfl) (woa (w:=wA.drew) aS _) (ad wA.heap.size 0) 1 1 [iv xw,iv xp] (by rfl) rfl (jah _ _ _) (by intro u hu;simp at hu;rcases hu with rfl|rfl<;>rfl) (by omega) (by unfold maxLen;omega) (by omega) (by simp;omega) _ rfl ?_;intro g1 aC w1 av af bE hlt1;have r1:=af.cell (a:=(ad hp 0)) (jaa (qal wA.drew _) k1) h4;have r2:=(af.frozen_far (ad hp 0) (by simp;omega) h4).trans (((jaf (qal wA.drew _)).2 _ _ (by simp;omega)).trans k4))
 all_goals
  have az:hp≠g1:=fun e=>by
   rcases bE with hh|hh
   ·exact h4 (by rw[e];exact hh.symm)
   ·simp at hh;omega
  have bX:Zj w1 hp (so g1 (X.length+1) aC) (X++[⟨xw,xp⟩]):=Zj.add (p:=⟨xw,xp⟩) av
  obtain⟨s1,s2,s3⟩:=jnh r1 r2 bX az
  have aj:Fr (fun b=>b=hp\/rb=some b\/b=g1) w w1:=((Fr.of_below eX).trans ((Fr.of_below (qal wA _)).trans (Fr.of_below (jab _)))).trans ((Fr.of_grown af).mono fun b _ hb=>.inr (.inl (h5.symm.trans hb)))
  have an:Fr (fun b=>b=hp\/rb=some b\/b=g1) w (w1.setCell (ad hp 0) (so g1 (X.length+1) aC)):=aj.trans ((Fr.of_grown (jck w1 hp 0 _)).mono fun b _ hb=>.inl (by injection hb with hb;exact hb.symm))
  have HG:Hid (some g1=rb\/∃k,w.heap.size<=k/\some g1=some k):=by
   rcases bE with hh|hh
   ·exact .inl (hh.symm.trans h5)
   ·exact .inr ⟨g1,by simp at hh;omega,rfl⟩
  have Ef:Hid (∀w',Fr (fun b=>b=hp\/rb=some b\/b=g1) w w'->Fr (fun b=>b=hp\/rb=some b) w w'):=fun w' hf=>hf.mono fun b hb hs=>by
   rcases hs with e|e|e
   ·exact .inl e
   ·exact .inr e
   ·rcases HG.out with e2|⟨k,hk,e2⟩
    ·exact .inr (by rw[e];exact e2.symm)
    ·injection e2 with e2;omega
  clear af bE hlt1 r1 r2 bX av aj aS k1 CT k2 k3 k4 h1 h2 h3 h4 h5 eX ji
  generalize w1.setCell (ad hp 0) (so g1 (X.length+1) aC)=w2 at *
  have kt:(X++[(⟨xw,xp⟩:WallD)]).length=X.length+1:=by simp
  have HP:Hid ((X++[(⟨xw,xp⟩:WallD)]).Perm (X++[⟨xw,xp⟩])):=List.Perm.refl _
  have HY:=hid kt
  go_wp2
  go_loopw [4] (fun s4 wr=>∃(k:Nat) (Y:List WallD),s4=iv k/\k<X.length+1/\Hid (Y.length=X.length+1)/\wr.cell? (ad hp 0)=some (so g1 (X.length+1) aC)/\wr.frozen? (ad hp 0)=false/\Zj wr hp (so g1 (X.length+1) aC) Y/\Hid (UpX Y k)/\Hid (Y.Perm (X++[⟨xw,xp⟩]))/\Fr (fun b=>b=hp\/rb=some b\/b=g1) w wr) (fun s4 _=>(intOf s4).toNat)
  case atStart=>exact⟨X.length,_,rfl,by omega,HY,s1,s2,s3,HU,HP,an⟩
  case round=>
   clear s1 s2 s3 an HU HP HY kt
   obtain⟨k,Y,rfl,eY,HY,s1,s2,s3,HU,HP,aK⟩:=hrel
   have mT:Zj wr hp (so g1 Y.length aC) Y:=by rw[HY.out];exact s3
   have GR:wr.cell? (ad hp 0)=some (so g1 Y.length aC):=by rw[HY.out];exact s1
   by_cases hk:0<k
   ·obtain⟨k',rfl⟩:∃k',k=k'+1:=⟨k-1,by omega⟩
    obtain⟨c1,aX⟩:∃x,Y[k'+1]? =some x:=⟨_,lgg (by rw[HY.out];omega)⟩
    obtain⟨p1,sI⟩:∃x,Y[k' / 2]? =some x:=⟨_,lgg (by rw[HY.out];omega)⟩
    obtain⟨e1,e2⟩:=mT.cells aX
    obtain⟨e3,e4⟩:=mT.cells sI
    have mJ:Y[(k'+1-1) / 2]? =some p1:=sI
    have hA:=fun w=>jd9 c1 p1 w
    have tk:((k':Int)+1).toNat=k'+1:=by omega
    have bk:(0:Int)<=(k':Int)+1:=by omega
    have EL:(k':Int)+1<((X.length:Int)+1):=by omega
    have tp:((k':Int) / 2).toNat=k' / 2:=by omega
    have bp:(0:Int)<=(k':Int) / 2:=by omega
    have NO:(k':Int) / 2<((X.length:Int)+1):=by omega
    have G6:=jds c1.wall (c1.place:Int)
    have vj:=fun n=>jee n c1.wall (c1.place:Int)
    have q0:=cell_regrown s1
    have q1:=cell_regrown e1
    have q2:=cell_regrown e2
    have q3:=cell_regrown e3
    have q4:=cell_regrown e4
    cases hlt:ltW c1 p1
    ·have HR:Hid (jc1 Y):=j1g HU.out mJ aX (jv1 hlt)
     rw[hlt]at hA
     simp only[WallD.v]at hA
     have cE:∀dd os,Cl _ _ (grow (redrawn wr dd) os) fun e cW=>e=.returned (.bool false)/\∃p:Regrown,cW=grow (redrawn wr p.d) p.os:=fun _ _=>Calls.regrown_of (hA _)
     have HM:Hid (Zt wr hp (some g1) Y):=jmg GR s2 mT az
     clear hlt aX sI mJ HU
     go_wp2_with fail
     refine wp_region_quiet_below (by kernel_rfl) (by kernel_rfl) ?_
     repeat (quiet_step ((go_at_call 309;exact cE _ _)))
     refine wpQuiet_nil ?_
     intro w3 gm
     obtain⟨⟨dq,aQ⟩,cJ⟩:=gm
     have ar:Bw wr w3:=cJ ▸ below_regrown wr dq aQ
     have ax:Fr (fun b=>b=hp\/rb=some b\/b=g1) w w3:=aK.trans (Fr.of_below ar)
     have Hu:Hid (Zt w3 hp (some g1) Y):=HM.out.below ar
     clear cJ ar
     go_wp2
     exact bpr (results_none Tryz.results263 _ _ _) rfl ⟨rfl,⟨Y,some g1,Hu.out,HR.out,HP.out,HG.out⟩,Ef.out _ ax⟩
    ·have I8:Hid (UpX (jay Y (k'+1) (k' / 2) c1 p1) (k' / 2)):=j1h HU.out (by omega) mJ aX (j18 hlt)
     have ju:Hid ((jay Y (k'+1) (k' / 2) c1 p1).Perm (X++[⟨xw,xp⟩])):=(jh1 aX sI).trans HP.out
     have Ii:Hid ((jay Y (k'+1) (k' / 2) c1 p1).length=X.length+1):=by simp only[Hid];rw[jei];exact HY.out
     have dA:=fun w h1 h2=>ji3 Y hp g1 aC (k'+1) (k' / 2) hp c1 p1 w h1 h2 aX sI (by omega) az
     rw[hlt]at hA
     simp only[WallD.v]at hA
     rw[HY.out]at dA
     have cE:∀dd os,Cl _ _ (grow (redrawn wr dd) os) fun e cW=>e=.returned (.bool true)/\∃p:Regrown,cW=grow (redrawn wr p.d) p.os:=fun _ _=>Calls.regrown_of (hA _)
     have ow:(((k' / 2:Nat):Nat):Int)=(k':Int) / 2:=by omega
     have qu:(((k'+1:Nat):Nat):Int)=(k':Int)+1:=by omega
     rw[ow,qu]at dA
     clear hlt aX sI mJ HU HP
     generalize jay Y (k'+1) (k' / 2) c1 p1=Z at *
     go_wp2_with fail
     refine wp_region_quiet_below (by kernel_rfl) (by kernel_rfl) ?_
     repeat (quiet_step ((go_at_call 309;exact cE _ _)))
     refine wpQuiet_nil ?_
     intro w3 gm
     obtain⟨⟨dq,aQ⟩,cJ⟩:=gm
     have ar:Bw wr w3:=cJ ▸ below_regrown wr dq aQ
     have ax:Fr (fun b=>b=hp\/rb=some b\/b=g1) w w3:=aK.trans (Fr.of_below ar)
     have t1:=jaa ar s1
     have t2:=qfz ar s1 s2
     have t3:Zj w3 hp (so g1 (X.length+1) aC) Y:=jac s3 ar
     clear cJ ar q0 q1 q2 q3 q4 cE
     go_wp2_with fail
     refine(dA _ t1 t3).mono ?_
     rintro e w4 ⟨rfl,dX,wW⟩
     have u1:=wW.cell (a:=(ad hp 0)) t1 (fun e=>az (by simpa using e))
     have u2:=(wW.frozen_far (ad hp 0) (qbl t1) (fun e=>az (by simpa using e))).trans t2
     have aR:Fr (fun b=>b=hp\/rb=some b\/b=g1) w w4:=ax.trans ((Fr.of_grown wW).mono fun b _ hb=>.inr (.inr (by injection hb with hb;exact hb.symm)))
     clear wW t1 t2 t3
     go_wp2
     go_roundw
     case rel=>exact⟨k' / 2,Z,by rw[ow],by omega,Ii,u1,u2,dX,I8,ju,aR⟩
     case measure=>simp[intOf];omega
   ·obtain rfl:k=0:=by omega
    have HR:Hid (jc1 Y):=j1i HU.out
    have HM:Hid (Zt wr hp (some g1) Y):=jmg GR s2 mT az
    go_wp2
    exact bodyPost_end (results_none Tryz.results263 _ _ _) rfl ⟨rfl,⟨Y,some g1,HM.out,HR.out,HP.out,HG.out⟩,Ef.out _ aK⟩
structure Jr(Y:List WallD)(p t f:Nat):Prop where
 place:f=p\/∃j,j<t/\f=2*p+1+j/\f<Y.length
 top:∀x y,Y[f]? =some x->Y[p]? =some y->LeW x y
 low:∀j x y,j<t->Y[f]? =some x->Y[2*p+1+j]? =some y->LeW x y
theorem jua(Y:List WallD)(p:Nat):Jr Y p 0 p:=⟨.inl rfl,fun x y h1 h2=>by rw[h1]at h2;obtain rfl:=osi h2;exact le_refl _,fun j x y h=>by omega⟩
theorem jsj{Y:List WallD}{p t f:Nat}(h:Jr Y p t f)(hc:Y.length<=2*p+1+t):Jr Y p (t+1) f:=by
 refine⟨?_,h.top,fun j x y hj hx hy=>?_⟩
 ·rcases h.place with e|⟨j,hj,e,hl⟩
  ·exact .inl e
  ·exact .inr ⟨j,by omega,e,hl⟩
 ·by_cases e:j=t
  ·subst e;rw[List.getElem?_eq_none hc]at hy;cases hy
  ·exact h.low j x y (by omega) hx hy
theorem jxu{Y:List WallD}{p t f:Nat}{c y:WallD}(h:Jr Y p t f)(hc:Y[2*p+1+t]? =some c)(hf:Y[f]? =some y)(cr:LeW y c):Jr Y p (t+1) f:=by
 refine⟨?_,h.top,fun j x z hj hx hz=>?_⟩
 ·rcases h.place with e|⟨j,hj,e,hl⟩
  ·exact .inl e
  ·exact .inr ⟨j,by omega,e,hl⟩
 ·by_cases e:j=t
  ·subst e
   rw[hc]at hz
   rw[hf]at hx
   obtain rfl:=osi hz
   obtain rfl:=osi hx
   exact cr
  ·exact h.low j x z (by omega) hx hz
theorem jsi{Y:List WallD}{p t f:Nat}{c y:WallD}(h:Jr Y p t f)(hc:Y[2*p+1+t]? =some c)(hf:Y[f]? =some y)(cr:LeW c y):Jr Y p (t+1) (2*p+1+t):=by
 refine⟨.inr ⟨t,by omega,rfl,(lgs hc).1⟩,fun x z hx hz=>?_,fun j x z hj hx hz=>?_⟩
 ·rw[hc]at hx
  obtain rfl:=osi hx
  exact le_trans cr (h.top y z hf hz)
 ·rw[hc]at hx
  obtain rfl:=osi hx
  by_cases e:j=t
  ·subst e;rw[hc]at hz;obtain rfl:=osi hz;exact le_refl _
  ·exact le_trans cr (h.low j y z (by omega) hf hz)
theorem idx0(a b:Int)(w:World):(Instr.index 322 (.agg #[iv a,iv b]) (iv 0)).run Tryz.prog w=.ok (iv a) w:=by kernel_rfl
theorem idx1(a b:Int)(w:World):(Instr.index 322 (.agg #[iv a,iv b]) (iv 1)).run Tryz.prog w=.ok (iv b) w:=by kernel_rfl
theorem kids{i p:Nat}(h0:0<i)(h:(i-1) / 2=p):i=2*p+1+0\/i=2*p+1+1:=by omega
theorem jxv{Y:List WallD}{p:Nat}(hD:DnX Y p)(h:Jr Y p 2 p):jc1 Y:=j2q hD fun i x y h0 hi hx hy=>by
 rcases kids h0 hi with e|e
 ·exact h.low 0 x y (by omega) hx (by rw[<- e];exact hy)
 ·exact h.low 1 x y (by omega) hx (by rw[<- e];exact hy)
theorem jxt{Y:List WallD}{p f:Nat}{x c:WallD}(hD:DnX Y p)(h:Jr Y p 2 f)(qB:f≠p)(hx:Y[p]? =some x)(hc:Y[f]? =some c):DnX (jay Y p f x c) f:=by
 rcases h.place with e|⟨j,hj,e,hl⟩
 ·exact absurd e qB
 ·refine j2r hD (by omega) (by omega) hx hc (h.top c x hc hx) fun i y h0 hi hy=>?_
  rcases kids h0 hi with e2|e2
  ·exact h.low 0 c y (by omega) hc (by rw[<- e2];exact hy)
  ·exact h.low 1 c y (by omega) hc (by rw[<- e2];exact hy)
theorem jwu(X:List WallD)(hp g cap n:Nat)(w:World)(h1:w.cell? (ad hp 0)=some (so g n cap))(h2:w.frozen? (ad hp 0)=false)(h3:Zj w hp (so g n cap) X)(hn:X.length=n)(az:hp≠g)(hD:DnX X 0)(hl:n<=4000):
  Cl 265 #[.pointer (some (ad hp 0)),iv 0] w fun e w'=>e=.returned (.tuple #[])/\(∃Y,jc1 Y/\Y.Perm X/\Y.length=n/\w'.cell? (ad hp 0)=some (so g n cap)/\w'.frozen? (ad hp 0)=false/\Zj w' hp (so g n cap) Y)/\Fr (fun b=>b=g) w w':=by
 have sU:=hid hD
 have El:=hid hn
 have rR:Hid (X.Perm X):=List.Perm.refl _
 clear hD hn
 unfold Cl;go_in
 go_wp2
 go_loopw [1] (fun s1 wr=>∃(p:Nat) (Y:List WallD),s1=iv p/\(p<n\/p=0)/\Hid (Y.length=n)/\wr.cell? (ad hp 0)=some (so g n cap)/\wr.frozen? (ad hp 0)=false/\Zj wr hp (so g n cap) Y/\Hid (DnX Y p)/\Hid (Y.Perm X)/\Fr (fun b=>b=g) w wr) (fun s1 _=>n-(intOf s1).toNat)
 case atStart=>exact⟨0,X,rfl,.inr rfl,El,h1,h2,h3,sU,rR,Fr.refl _ _⟩
 case round=>
  clear h1 h2 h3 El sU rR
  obtain⟨p,Y,rfl,Gh,HN,h1,h2,h3,HD,HP,hB⟩:=hrel
  have Eb:Hid (Jr Y p 0 p):=jua Y p
  have Pc:p<=4000:=by omega
  go_wp2
  go_loopw [4,15] (fun s4 rh wr=>∃(f t:Nat),s4=iv f/\rh=iv t/\t<=2/\f<=10000/\Hid (Jr Y p t f)/\wr.cell? (ad hp 0)=some (so g n cap)/\wr.frozen? (ad hp 0)=false/\Zj wr hp (so g n cap) Y/\Fr (fun b=>b=g) w wr) (fun _ rh _=>2-(intOf rh).toNat)
  case atStart=>exact⟨p,0,rfl,rfl,by omega,by omega,Eb,h1,h2,h3,hB⟩
  case round=>
   clear h1 h2 h3 hB Eb
   obtain⟨f,t,rfl,rfl,eH,oy,HC,h1,h2,h3,hB⟩:=hrel
   have i0:=idx0 (2*(p:Int)+1) (2*(p:Int)+2)
   have i1:=idx1 (2*(p:Int)+1) (2*(p:Int)+2)
   have sc:Zj wr hp (so g Y.length cap) Y:=by rw[HN.out];exact h3
   rcases(show t=0\/t=1\/t=2 by omega)with rfl|rfl|rfl
   ·by_cases uQ:2*p+1+0<n
    ·obtain⟨c,hc⟩:∃c,Y[2*p+1+0]? =some c:=⟨_,lgg (by rw[HN.out];exact uQ)⟩
     have uV:f<n:=by
      rcases HC.out.place with e|⟨j,hj,e,fG⟩
      ·omega
      ·rw[HN.out]at fG;exact fG
     obtain⟨y,hy⟩:∃y,Y[f]? =some y:=⟨_,lgg (by rw[HN.out];exact uV)⟩
     obtain⟨e1,e2⟩:=sc.cells hc
     obtain⟨e3,e4⟩:=sc.cells hy
     rw[show(2*p+1+0)*2=(2*p+1)*2 by omega]at e1 e2
     have hA:=fun w=>jd9 c y w
     have G6:=jds c.wall (c.place:Int)
     have vj:=fun n=>jee n c.wall (c.place:Int)
     have q0:=cell_regrown h1
     have q1:=cell_regrown e1
     have q2:=cell_regrown e2
     have q3:=cell_regrown e3
     have q4:=cell_regrown e4
     have dc:decide (2*(p:Int)+1<(n:Int))=true:=by simp;omega
     have tc:(2*(p:Int)+1).toNat=2*p+1:=by omega
     have bc:(0:Int)<=2*(p:Int)+1:=by omega
     have Io:2*(p:Int)+1<(n:Int):=by omega
     have bf:(0:Int)<=(f:Int):=by omega
     have Ip:(f:Int)<(n:Int):=by omega
     cases hlt:ltW c y
     ·have iq:Hid (Jr Y p (0+1) f):=jxu HC.out hc hy (jv1 hlt)
      rw[hlt]at hA
      simp only[WallD.v]at hA
      have cE:∀dd os,Cl _ _ (grow (redrawn wr dd) os) fun e cW=>e=.returned (.bool false)/\∃p:Regrown,cW=grow (redrawn wr p.d) p.os:=fun _ _=>Calls.regrown_of (hA _)
      clear hlt hc hy HC
      go_wp2_with fail
      refine wp_region_quiet_below (by kernel_rfl) (by kernel_rfl) ?_
      repeat (quiet_step ((go_at_call 309;exact cE _ _)))
      refine wpQuiet_nil ?_
      intro w3 gm
      obtain⟨⟨dq,aQ⟩,cJ⟩:=gm
      have ar:Bw wr w3:=cJ ▸ below_regrown wr dq aQ
      have hsz:=qbl h1
      have ax:Fr (fun b=>b=g) w w3:=hB.trans (Fr.of_below ar)
      have t1:=jaa ar h1
      have t2:=((jaf ar).2 _ _ hsz).trans h2
      have t3:Zj w3 hp (so g n cap) Y:=jac h3 ar
      clear cJ ar q0 q1 q2 q3 q4 cE
      go_wp2
      go_roundw
      case rel=>exact⟨f,0+1,rfl,rfl,by omega,by omega,iq,t1,t2,t3,ax⟩
      case measure=>simp[intOf]
     ·have iq:Hid (Jr Y p (0+1) (2*p+1+0)):=jsi HC.out hc hy (j18 hlt)
      rw[hlt]at hA
      simp only[WallD.v]at hA
      have cE:∀dd os,Cl _ _ (grow (redrawn wr dd) os) fun e cW=>e=.returned (.bool true)/\∃p:Regrown,cW=grow (redrawn wr p.d) p.os:=fun _ _=>Calls.regrown_of (hA _)
      clear hlt hc hy HC
      go_wp2_with fail
      refine wp_region_quiet_below (by kernel_rfl) (by kernel_rfl) ?_
      repeat (quiet_step ((go_at_call 309;exact cE _ _)))
      refine wpQuiet_nil ?_
      intro w3 gm
      obtain⟨⟨dq,aQ⟩,cJ⟩:=gm
      have ar:Bw wr w3:=cJ ▸ below_regrown wr dq aQ
      have hsz:=qbl h1
      have ax:Fr (fun b=>b=g) w w3:=hB.trans (Fr.of_below ar)
      have t1:=jaa ar h1
      have t2:=((jaf ar).2 _ _ hsz).trans h2
      have t3:Zj w3 hp (so g n cap) Y:=jac h3 ar
      clear cJ ar q0 q1 q2 q3 q4 cE
      go_wp2
      go_roundw
      case rel=>exact⟨2*p+1+0,0+1,by congr 1,rfl,by omega,by omega,iq,t1,t2,t3,ax⟩
      case measure=>simp[intOf]
    ·have iq:Hid (Jr Y p (0+1) f):=jsj HC.out (by rw[HN.out];omega)
     have dc:decide (2*(p:Int)+1<(n:Int))=false:=by simp;omega
     clear HC
     go_wp2_with fail
     go_quiet (fail)
     go_wp2
     go_roundw
     case rel=>exact⟨f,0+1,rfl,rfl,by omega,oy,iq,h1,h2,jac h3 (below_drewN (brf _ _) _),hB.trans (Fr.of_below (below_drewN (brf _ _) _))⟩
     case measure=>simp[intOf]
   ·by_cases uQ:2*p+1+1<n
    ·obtain⟨c,hc⟩:∃c,Y[2*p+1+1]? =some c:=⟨_,lgg (by rw[HN.out];exact uQ)⟩
     have uV:f<n:=by
      rcases HC.out.place with e|⟨j,hj,e,fG⟩
      ·omega
      ·rw[HN.out]at fG;exact fG
     obtain⟨y,hy⟩:∃y,Y[f]? =some y:=⟨_,lgg (by rw[HN.out];exact uV)⟩
     obtain⟨e1,e2⟩:=sc.cells hc
     obtain⟨e3,e4⟩:=sc.cells hy
     rw[show(2*p+1+1)*2=(2*p+2)*2 by omega]at e1 e2
     have hA:=fun w=>jd9 c y w
     have G6:=jds c.wall (c.place:Int)
     have vj:=fun n=>jee n c.wall (c.place:Int)
     have q0:=cell_regrown h1
     have q1:=cell_regrown e1
     have q2:=cell_regrown e2
     have q3:=cell_regrown e3
     have q4:=cell_regrown e4
     have dc:decide (2*(p:Int)+2<(n:Int))=true:=by simp;omega
     have tc:(2*(p:Int)+2).toNat=2*p+2:=by omega
     have bc:(0:Int)<=2*(p:Int)+2:=by omega
     have Io:2*(p:Int)+2<(n:Int):=by omega
     have bf:(0:Int)<=(f:Int):=by omega
     have Ip:(f:Int)<(n:Int):=by omega
     cases hlt:ltW c y
     ·have iq:Hid (Jr Y p (1+1) f):=jxu HC.out hc hy (jv1 hlt)
      rw[hlt]at hA
      simp only[WallD.v]at hA
      have cE:∀dd os,Cl _ _ (grow (redrawn wr dd) os) fun e cW=>e=.returned (.bool false)/\∃p:Regrown,cW=grow (redrawn wr p.d) p.os:=fun _ _=>Calls.regrown_of (hA _)
      clear hlt hc hy HC
      go_wp2_with fail
      refine wp_region_quiet_below (by kernel_rfl) (by kernel_rfl) ?_
      repeat (quiet_step ((go_at_call 309;exact cE _ _)))
      refine wpQuiet_nil ?_
      intro w3 gm
      obtain⟨⟨dq,aQ⟩,cJ⟩:=gm
      have ar:Bw wr w3:=cJ ▸ below_regrown wr dq aQ
      have hsz:=qbl h1
      have ax:Fr (fun b=>b=g) w w3:=hB.trans (Fr.of_below ar)
      have t1:=jaa ar h1
      have t2:=((jaf ar).2 _ _ hsz).trans h2
      have t3:Zj w3 hp (so g n cap) Y:=jac h3 ar
      clear cJ ar q0 q1 q2 q3 q4 cE
      go_wp2
      go_roundw
      case rel=>exact⟨f,1+1,rfl,rfl,by omega,by omega,iq,t1,t2,t3,ax⟩
      case measure=>simp[intOf]
     ·have iq:Hid (Jr Y p (1+1) (2*p+1+1)):=jsi HC.out hc hy (j18 hlt)
      rw[hlt]at hA
      simp only[WallD.v]at hA
      have cE:∀dd os,Cl _ _ (grow (redrawn wr dd) os) fun e cW=>e=.returned (.bool true)/\∃p:Regrown,cW=grow (redrawn wr p.d) p.os:=fun _ _=>Calls.regrown_of (hA _)
      clear hlt hc hy HC
      go_wp2_with fail
      refine wp_region_quiet_below (by kernel_rfl) (by kernel_rfl) ?_
      repeat (quiet_step ((go_at_call 309;exact cE _ _)))
      refine wpQuiet_nil ?_
      intro w3 gm
      obtain⟨⟨dq,aQ⟩,cJ⟩:=gm
      have ar:Bw wr w3:=cJ ▸ below_regrown wr dq aQ
      have hsz:=qbl h1
      have ax:Fr (fun b=>b=g) w w3:=hB.trans (Fr.of_below ar)
      have t1:=jaa ar h1
      have t2:=((jaf ar).2 _ _ hsz).trans h2
      have t3:Zj w3 hp (so g n cap) Y:=jac h3 ar
      clear cJ ar q0 q1 q2 q3 q4 cE
      go_wp2
      go_roundw
      case rel=>exact⟨2*p+1+1,1+1,by congr 1,rfl,by omega,by omega,iq,t1,t2,t3,ax⟩
      case measure=>simp[intOf]
    ·have iq:Hid (Jr Y p (1+1) f):=jsj HC.out (by rw[HN.out];omega)
     have dc:decide (2*(p:Int)+2<(n:Int))=false:=by simp;omega
     clear HC
     go_wp2_with fail
     go_quiet (fail)
     go_wp2
     go_roundw
     case rel=>exact⟨f,1+1,rfl,rfl,by omega,oy,iq,h1,h2,jac h3 (below_drewN (brf _ _) _),hB.trans (Fr.of_below (below_drewN (brf _ _) _))⟩
     case measure=>simp[intOf]
   ·by_cases qB:f=p
    ·subst qB
     have HR:Hid (jc1 Y):=jxv HD.out HC.out
     have ge:((f:Int)==(f:Int))=true:=by simp
     go_wp2
     exact bpr (results_none Tryz.results265 _ _ _) rfl ⟨rfl,⟨Y,HR.out,HP.out,HN.out,h1,h2,h3⟩,hB⟩
    ·have D4:p<f/\f<n:=by
      rcases HC.out.place with e|⟨j,hj,e,fG⟩
      ·exact absurd e qB
      ·rw[HN.out]at fG;omega
     obtain⟨x,hx⟩:∃x,Y[p]? =some x:=⟨_,lgg (by rw[HN.out];omega)⟩
     obtain⟨c,hc⟩:∃c,Y[f]? =some c:=⟨_,lgg (by rw[HN.out];omega)⟩
     have Hi:Hid (DnX (jay Y p f x c) f):=jxt HD.out HC.out qB hx hc
     have ju:Hid ((jay Y p f x c).Perm X):=(jh1 hx hc).trans HP.out
     have gK:Hid ((jay Y p f x c).length=n):=by simp only[Hid];rw[jei];exact HN.out
     have dA:=fun w h1 h2=>ji3 Y hp g cap p f hp x c w h1 h2 hx hc (by omega) az
     rw[HN.out]at dA
     have ge:((f:Int)==(p:Int))=false:=by simp;omega
     clear hx hc HD HP HC
     generalize jay Y p f x c=Z at *
     go_wp2_with fail
     refine(dA _ h1 h3).mono ?_
     rintro e w4 ⟨rfl,dX,wW⟩
     have u1:=wW.cell (a:=(ad hp 0)) h1 (fun e=>az (by simpa using e))
     have u2:=(wW.frozen_far (ad hp 0) (qbl h1) (fun e=>az (by simpa using e))).trans h2
     have aR:Fr (fun b=>b=g) w w4:=hB.trans ((Fr.of_grown wW).mono fun b _ hb=>by injection hb with hb;exact hb.symm)
     clear wW
     go_wp2
     go_roundw
     case rel=>exact⟨f,Z,rfl,.inl (by omega),gK,u1,u2,dX,Hi,ju,aR⟩
     case measure=>simp[intOf];omega
theorem jy5{w:World}{base g cap n:Nat}{Y:List WallD}(h:Zj w base (so g (n+1) cap) Y)(hn:Y.length=n+1):Zj w base (so g n cap) (Y.take n):=by
 unfold Zj at h ⊢
 rw[hn]at h
 have hl:(Y.take n).length=n:=by rw[List.length_take];omega
 rw[hl]
 have D4:((Y.take n).map WallD.cs).flatten=(Y.map WallD.cs).flatten.take (n*2):=by
  have e:Y=Y.take n++Y.drop n:=(List.take_append_drop n Y).symm
  have e2:(Y.map WallD.cs).flatten=((Y.take n).map WallD.cs).flatten++((Y.drop n).map WallD.cs).flatten:=by
   conv=>lhs;rw[e,lma,List.flatten_append]
  rw[e2,List.take_append_of_le_length (by rw[jbx jbo,llm,hl];exact nlr _)]
  exact(List.take_of_length_le (by rw[jbx jbo,llm,hl];exact nlr _)).symm
 rw[D4]
 rcases h.2 with⟨h',_⟩|⟨g',fK,cur,h',hb,hg,sG,qw,ku,ht⟩
 ·cases h'
 ·simp only[Value.slice.injEq,Option.some.injEq,Addr.mk.injEq,and_true,true_and]at h'
  obtain⟨rfl,rfl⟩:=h'
  refine⟨?_,.inr ⟨g,cap,cur,rfl,hb,hg,by omega,qw,ku,?_⟩⟩
  ·rw[List.length_take,h.1];omega
  ·rw[<- ht,List.take_take,Nat.min_eq_left (by omega)]
theorem jtr(hp g cap base:Nat)(a:WallD)(w:World)(aE:w.cell? (ad hp 0)=some (so g 1 cap))(ai:Zj w base (so g 1 cap) [a]):
  Cl 264 #[.pointer (some (ad hp 0)),iv 0,iv 0] w fun e w'=>e=.returned (.tuple #[])/\Zj w' base (so g 1 cap) [a]/\w.grownBy w' (some g):=by
 obtain⟨a0,a1⟩:=Zj.cells (X:=[a]) (i:=0) ai rfl
 have z0:=World.ownsRow.frozenAt ai 0
 have z1:=World.ownsRow.frozenAt ai 1
 have NI:w.cell? (ad g 0)=some (iv a.wall):=by simpa using a0
 have NJ:w.cell? (ad g 1)=some (iv a.place):=by simpa using a1
 obtain⟨h1,g1⟩:=World.ownsRow.stored ai 0 (iv a.wall)
 obtain⟨h2,g2⟩:=h1.stored 1 (iv a.place)
 obtain⟨h3,g3⟩:=h2.stored 0 (iv a.wall)
 obtain⟨h4,g4⟩:=h3.stored 1 (iv a.place)
 have HO:Zj ((((w.setCell (ad g 0) (iv a.wall)).setCell (ad g 1) (iv a.place)).setCell (ad g 0) (iv a.wall)).setCell (ad g 1) (iv a.place)).drew base (so g 1 cap) [a]:=h4.drew
 have HG:=jbf g1 (jbf g2 (jbf g3 (jbf g4 (jk4 _ _))))
 clear h1 h2 h3 h4 g1 g2 g3 g4 a0 a1
 unfold Cl;go_in
 go_wp2_with fail
 go_region
 exact bodyPost_end (results_none Tryz.results264 _ _ _) rfl ⟨rfl,HO,HG⟩
theorem jva(X:List WallD)(n hp g cap base:Nat)(x z:WallD)(w:World)(hn:X.length=n+1)(aE:w.cell? (ad hp 0)=some (so g (n+1) cap))(ai:Zj w base (so g (n+1) cap) X)(hx:X[0]? =some x)(hz:X[n]? =some z)(az:hp≠g):
  Cl 264 #[.pointer (some (ad hp 0)),iv 0,iv n] w fun e w'=>e=.returned (.tuple #[])/\Zj w' base (so g (n+1) cap) (jay X 0 n x z)/\w.grownBy w' (some g):=by
 by_cases h0:n=0
 ·subst h0
  match X,hn with
  |[a],_=>
   simp at hx hz
   subst hx
   subst hz
   exact jtr hp g cap base a w aE ai
 ·have:=ji3 X hp g cap 0 n base x z w (by rw[hn];exact aE) (by rw[hn];exact ai) hx hz (by omega) az
  rw[hn]at this
  exact this
theorem jyq{X:List WallD}(h:jc1 X){x:WallD}(hx:X[0]? =some x):∀y∈X,LeW x y:=fun y hy=>by
 obtain⟨i,hi⟩:=lgo hy
 exact jzy h hx i i y (nlr _) hi
theorem jzw(X:List WallD)(n hp g cap:Nat)(w:World)(h1:w.cell? (ad hp 0)=some (so g (n+1) cap))(h2:w.frozen? (ad hp 0)=false)(h3:Zj w hp (so g (n+1) cap) X)(hn:X.length=n+1)(az:hp≠g)(hX:jc1 X)(hl:n+1<=4000)(eh:n+1<=cap):
  Cl 247 #[.pointer (some (ad hp 0))] w fun e w'=>∃x Y,e=.returned x.v/\jc1 Y/\X.Perm (x::Y)/\(∀y∈Y,LeW x y)/\Y.length=n/\w'.cell? (ad hp 0)=some (so g n cap)/\w'.frozen? (ad hp 0)=false/\Zj w' hp (so g n cap) Y/\Fr (fun b=>b=hp\/b=g) w w':=by
 obtain⟨x,hx⟩:∃x,X[0]? =some x:=⟨_,lgg (by omega)⟩
 obtain⟨z,hz⟩:∃z,X[n]? =some z:=⟨_,lgg (by omega)⟩
 have hsz:=qbl h1
 have FU:=(h3.lt g rfl).2
 have dA:=fun w h1 h2=>jva X n hp g cap hp x z w hn h1 h2 hx hz az
 have HJ:Hid (X.Perm (x::(jay X 0 n x z).take n)):=jy3 hn hx hz
 have Hj:Hid (DnX ((jay X 0 n x z).take n) 0):=j0g hX
 have xt:Hid ((jay X 0 n x z).length=n+1):=by simp only[Hid];rw[jei,hn]
 have I7:Hid (((jay X 0 n x z).take n).length=n):=by simp only[Hid];rw[List.length_take,jei];omega
 have Hr:Hid ((jay X 0 n x z)[n]? =some x):=jrf (by omega)
 have yz:Hid (∀y∈X,LeW x y):=jyq hX hx
 clear hx hz hX hn
 generalize jay X 0 n x z=Z at *
 have k1:(w.alloc (.cells #[iv 0,iv 0] 306)).cell? (ad hp 0)=some (so g (n+1) cap):=jaa (qal w _) h1
 have k2:(w.alloc (.cells #[iv 0,iv 0] 306)).frozen? (ad hp 0)=false:=((jaf (qal w _)).2 _ _ hsz).trans h2
 have k3:Zj (w.alloc (.cells #[iv 0,iv 0] 306)) hp (so g (n+1) cap) X:=woa h3 _
 obtain⟨D0,D1⟩:(fun z:World=>z.cell? (ad w.heap.size 0)=some (iv 0)/\z.cell? (ad w.heap.size 1)=some (iv 0)) (w.alloc (.cells #[iv 0,iv 0] 306)):=by simp[go_sem]
 have kf:∀i,(w.alloc (.cells #[iv 0,iv 0] 306)).frozen? (ad w.heap.size i)=false:=fun i=>by simp[go_sem]
 have Lb:(w.alloc (.cells #[iv 0,iv 0] 306)).heap.size=w.heap.size+1:=by simp
 have fA:Fr (fun b=>b=hp\/b=g) w (w.alloc (.cells #[iv 0,iv 0] 306)):=Fr.of_below (qal w _)
 have bn:IntKind.i64.wrap ((n:Int)+1-1)=n:=by rw[show(n:Int)+1-1=n by omega];exact wrap_small _ (by omega) (by omega)
 have b1:(0:Int)<=(n:Int):=by omega
 have b2:(n:Int)<(n:Int)+1:=by omega
 have b3:(n:Int)<=(cap:Int):=by omega
 unfold Cl;go_in
 go_wp2_with fail
 obtain⟨wA,cK⟩:=qeb ((w.alloc (.cells #[iv 0,iv 0] 306)))
 rw[cK]at k1 k2 k3 D0 D1 kf Lb fA ⊢
 clear cK h1 h2 h3
 refine(dA _ k1 k3).mono ?_
 rintro e w1 ⟨rfl,dW,cQ⟩
 have ng:w.heap.size≠g:=by omega
 have f1:=(Fr.of_grown cQ).mono (S2:=fun b=>b=hp\/b=g) fun b _ hb=>.inr (by injection hb with hb;exact hb.symm)
 have l1:=cQ.cell (a:=(ad hp 0)) k1 (fun e=>az (by simpa using e))
 have l2:=(cQ.frozen_far (ad hp 0) (by show hp<_;omega) (fun e=>az (by simpa using e))).trans k2
 have D2:=cQ.cell (a:=(ad w.heap.size 0)) D0 (fun e=>ng (by simpa using e))
 have GE:=cQ.cell (a:=(ad w.heap.size 1)) D1 (fun e=>ng (by simpa using e))
 have lf:∀i,w1.frozen? (ad w.heap.size i)=false:=fun i=>(cQ.frozen_far (ad w.heap.size i) (by show w.heap.size<_;omega) (fun e=>ng (by simpa using e))).trans (kf i)
 have fB:=fA.trans f1
 have bU:=cQ.size
 obtain⟨c0,c1⟩:=Zj.cells (X:=Z) (cap:=cap) (by rw[xt.out];exact dW) Hr.out
 have hcut:=jy5 dW xt.out
 clear cQ f1 fA k1 k2 k3 D0 D1 kf dA dW
 have j9:=qal w1 (.cells #[iv x.wall,iv x.place] 306)
 have m1:=jaa j9 l1
 have m2:=qfz j9 l1 l2
 have GG:=jaa j9 D2
 have GH:=jaa j9 GE
 have mf:∀i,(w1.alloc (.cells #[iv x.wall,iv x.place] 306)).frozen? (ad w.heap.size i)=false:=fun i=>((jaf j9).2 _ _ (qbl D2)).trans (lf i)
 obtain⟨Li,Lj⟩:(fun z:World=>z.cell? (ad w1.heap.size 0)=some (iv x.wall)/\z.cell? (ad w1.heap.size 1)=some (iv x.place)) (w1.alloc (.cells #[iv x.wall,iv x.place] 306)):=by simp[go_sem]
 have mc:Zj (w1.alloc (.cells #[iv x.wall,iv x.place] 306)) hp (so g n cap) (Z.take n):=woa hcut _
 have fC:=fB.trans (Fr.of_below j9)
 obtain⟨p1,p2,p3⟩:=jnh m1 m2 mc az
 have gs:=jck (w1.alloc (.cells #[iv x.wall,iv x.place] 306)) hp 0 (so g n cap)
 have nb:w.heap.size≠hp:=by omega
 have D5:w1.heap.size≠hp:=by omega
 have yo:w1.heap.size≠g:=by omega
 have GL:=gs.cell (a:=(ad w.heap.size 0)) GG (fun e=>nb (by simpa using e))
 have LH:=gs.cell (a:=(ad w.heap.size 1)) GH (fun e=>nb (by simpa using e))
 have LI:=gs.cell (a:=(ad w1.heap.size 0)) Li (fun e=>D5 (by simpa using e))
 have LJ:=gs.cell (a:=(ad w1.heap.size 1)) Lj (fun e=>D5 (by simpa using e))
 have pf:∀i,((w1.alloc (.cells #[iv x.wall,iv x.place] 306)).setCell (ad hp 0) (so g n cap)).frozen? (ad w.heap.size i)=false:=fun i=>by rw[World.frozen?_setCell];exact mf i
 have fD:=fC.trans ((Fr.of_grown gs).mono (S2:=fun b=>b=hp\/b=g) fun b _ hb=>.inl (by injection hb with hb;exact hb.symm))
 have Fu:=jwu (Z.take n) hp g cap n _ p1 p2 p3 I7.out az Hj.out (by omega)
 clear gs mc GG GH mf j9 l2 D2 GE lf fB fC hcut
 go_wp2_with fail
 refine Fu.mono ?_
 rintro e w4 ⟨rfl,⟨Y,hY,FG,kt,s1,s2,s3⟩,pg⟩
 have HR:Hid (jc1 Y/\X.Perm (x::Y)/\(∀y∈Y,LeW x y)/\Y.length=n):=by
  have Ge:X.Perm (x::Y):=HJ.out.trans (List.Perm.cons x FG.symm)
  exact⟨hY,Ge,fun y hy=>yz.out y (Ge.mem_iff.mpr (lmc _ hy)),kt⟩
 have fE:=fD.trans (pg.mono (S2:=fun b=>b=hp\/b=g) fun b _ hb=>.inr hb)
 have t0:=pg.cell (b:=w.heap.size) (o:=0) ng GL
 have t1:=pg.cell (b:=w.heap.size) (o:=1) ng LH
 have t2:=pg.cell (b:=w1.heap.size) (o:=0) yo LI
 have t3:=pg.cell (b:=w1.heap.size) (o:=1) yo LJ
 have tf:∀i,w4.frozen? (ad w.heap.size i)=false:=fun i=>(pg.frozen (qbl GL) ng).trans (pf i)
 have PM:=tf 0
 have PN:=tf 1
 have OM:=qbl t0
 have gA:=jck w4 w.heap.size 0 (iv x.wall)
 have gB:=jck (w4.setCell (ad w.heap.size 0) (iv x.wall)) w.heap.size 1 (iv x.place)
 have lT:=jbf gA gB
 have r0:((w4.setCell (ad w.heap.size 0) (iv x.wall)).setCell (ad w.heap.size 1) (iv x.place)).cell? (ad w.heap.size 0)=some (iv x.wall):=by
  rw[wco _ _ _ _ (by intro e;injection e with _ e2;omega)]
  exact wcs _ _ _ t0
 have jp:(w4.setCell (ad w.heap.size 0) (iv x.wall)).cell? (ad w.heap.size 1)=some (iv 0):=by
  rw[wco _ _ _ _ (by intro e;injection e with _ e2;omega)]
  exact t1
 have r1:=wcs (w4.setCell (ad w.heap.size 0) (iv x.wall)) _ (iv x.place) jp
 have v1:=lT.cell (a:=(ad hp 0)) s1 (fun e=>nb (by simpa using e.symm))
 have v2:=(lT.frozen_far (ad hp 0) (qbl s1) (fun e=>nb (by simpa using e.symm))).trans s2
 have v3:Zj ((w4.setCell (ad w.heap.size 0) (iv x.wall)).setCell (ad w.heap.size 1) (iv x.place)) hp (so g n cap) Y:=World.ownsRow.kept s3 lT (.inr fun e=>ng (by simpa [Value.ownBlock]using e.symm))
 have fF:Fr (fun b=>b=hp\/b=g) w ((w4.setCell (ad w.heap.size 0) (iv x.wall)).setCell (ad w.heap.size 1) (iv x.place)):=by
  refine⟨lT.os.trans fE.os,lT.tape.trans fE.tape,lT.output.trans fE.output,Nat.le_trans fE.size lT.size,fun b hb hs=>(lT.block b (Nat.lt_of_lt_of_le hb fE.size) fun e=>?_).trans (fE.block b hb hs)⟩
  have:b=w.heap.size:=by simpa using e
  omega
 clear gA gB lT fE pg Fu s1 s2 s3 hY FG kt
 go_wp2
 exact bpr (v:=.agg #[iv x.wall,iv x.place]) (by simp[results,Tryz.results247,go_sem,r0,r1]) rfl ⟨x,Y,rfl,HR.out.1,HR.out.2.1,HR.out.2.2.1,HR.out.2.2.2,v1,v2,v3,fF⟩
