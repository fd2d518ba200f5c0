/- Rows of structs of one's own, in general. -/
import Derived.Test.YtpejeokacilebaaGreatDoorRelPd
import Derived.Deep.AppendLies
set_option maxHeartbeats 0
set_option linter.unusedSimpArgs false
namespace Go.Proofs.YtpejeokacilebaaGreatDoor
open Go.RowKit
theorem ja3{q:Nat}:∀{rows:List (List Value)},(∀r∈rows,r.length=q)->∀{i j:Nat} {r:List Value} {c:Value},rows[i]? =some r->r[j]? =some c->rows.flatten[i*q+j]? =some c:=by
 intro rows
 induction rows with
 |nil=>intro _ i j r c h;simp at h
 | cons x rows ih=>
  intro hq i j r c hi hj
  have hx:=hq x (by simp)
  cases i with
  |zero=>
   simp at hi
   subst hi
   rw[List.flatten_cons,Nat.zero_mul,Nat.zero_add,lgl (lgs hj).1]
   exact hj
  |succ i=>
   rw[List.flatten_cons,List.getElem?_append_right (by rw[hx,Nat.add_mul];omega),hx]
   rw[show(i+1)*q+j-q=i*q+j by rw[Nat.add_mul];omega]
   exact ih (fun y hy=>hq y (lmc _ hy)) (by simpa using hi) hj
theorem jbx{q:Nat}:∀{rows:List (List Value)},(∀r∈rows,r.length=q)->rows.flatten.length=rows.length*q:=by
 intro rows
 induction rows with
 |nil=>intro _;simp
 |cons x rows ih=>
  intro hq
  rw[List.flatten_cons,lla,hq x (by simp),ih fun y hy=>hq y (lmc _ hy),List.length_cons,Nat.add_mul]
  omega
theorem jbe{w:World}{base:Nat}{e:TypeId}{q:Nat}{v:Value}{rows:List (List Value)}(h:w.ownsRow base e q v rows.length rows.flatten)(hq:∀r∈rows,r.length=q):∃a cap,v=.slice a rows.length cap/\Za w a q rows/\rows.length<=cap:=by
 rcases h.2 with⟨hv,h0⟩|⟨g,cap,cur,hv,hb,hg,hc,_,_,_⟩
 ·exact⟨none,0,by rw[hv,h0],.inl (List.length_eq_zero_iff.mp h0),by omega⟩
 ·refine⟨_,cap,hv,.inr ⟨g,0,rfl,fun i j r c hi hj=>?_⟩,hc⟩
  rw[hv]at h
  have hl:=ja3 hq hi hj
  have hlt:=(lgs hl).1
  rw[jbx hq]at hlt
  rw[Nat.zero_add,h.cellAt _ hlt,hl]
theorem jnf{w:World}{base:Nat}{e:TypeId}{q:Nat}{g n cap:Nat}{xs:List Value}(h:w.ownsRow base e q (so g n cap) n xs):Zg w g (n*q):=fun x hx=>by
 refine⟨?_,h.frozenAt x⟩
 have h1:=h.cellAt x hx
 have h2:=h.1
 exact⟨_,h1.trans (lgg (by rw[h2];exact hx))⟩
theorem jah(w:World)(cs:List Value)(t:TypeId):∀j u,cs[j]? =some u->(w.alloc (.cells cs.toArray t)).cell? (((ad w.heap.size 0):Addr).add j)=some u:=fun j u h=>World.news_of_block (heap_alloc_new w _) j u (by simpa using h)
theorem jaa{w w':World}(hb:Bw w w'){b o:Nat}{v:Value}(h:w.cell? (ad b o)=some v):w'.cell? (ad b o)=some v:=qce hb h h
theorem jab(w:World):Bw w w.drew:=⟨rfl,rfl,rfl,nlr _,fun _ _=>rfl⟩
theorem addP(b o j:Nat):((ad b o):Addr).add j=(ad b (o+j)):=by unfold Addr.add;split<;>simp_all
theorem jad{w:World}{base:Nat}{e:TypeId}{size:Nat}{v:Value}{n:Nat}{xs:List Value}(h:w.ownsRow base e size v n xs):∃a m c,v=.slice a m c:=by
 rcases h.2 with⟨hv,_⟩|⟨g,cap,cur,hv,_⟩
 ·exact⟨_,_,_,hv⟩
 ·exact⟨_,_,_,hv⟩
theorem jaj{w:World}{base fI:Nat}{e:TypeId}{size:Nat}{v:Value}{n:Nat}{xs:List Value}(h:w.ownsRow base e size v n xs)(hb:fI<=base):w.ownsRow fI e size v n xs:=by
 refine⟨h.1,?_⟩
 rcases h.2 with h|⟨g,cap,cur,e1,e2,e3⟩
 ·exact .inl h
 ·exact .inr ⟨g,cap,cur,e1,by omega,e3⟩
theorem jac{w w':World}{base:Nat}{e:TypeId}{size:Nat}{v:Value}{n:Nat}{xs:List Value}(h:w.ownsRow base e size v n xs)(hb:Bw w w'):w'.ownsRow base e size v n xs:=by
 refine⟨h.1,?_⟩
 rcases h.2 with h|⟨g,cap,cur,e1,e2,e3,e4⟩
 ·exact .inl h
 ·exact .inr ⟨g,cap,cur,e1,e2,(hb.block g (Array.getElem?_eq_some_iff.1 e3).1).trans e3,e4⟩
theorem ja5(w:World)(t:TypeId)(q:Nat):(w.alloc (.cells #[] t)).ownsRow w.heap.size t q (.slice (some (ad w.heap.size 0)) 0 0) 0 []:=
 ⟨by simp,.inr ⟨w.heap.size,0,#[],rfl,nlr _,heap_alloc_new w _,nlr _,by unfold maxLen;omega,by simp,by simp⟩⟩
theorem Za.drop{w:World}{b o k m:Nat}{rows:List (List Value)}(h:Za w (some (ad b o)) k rows):Za w (some (ad b (o+m*k))) k (rows.drop m):=by
 rcases h with h|⟨b',o',e,h⟩
 ·exact .inl (by rw[h];simp)
 ·injection e with e
  injection e with u1 u2
  subst u1 u2
  refine .inr ⟨_,_,rfl,fun i j r c hi hj=>?_⟩
  rw[show o+m*k+i*k+j=o+(m+i)*k+j by rw[Nat.add_mul];omega]
  exact h (m+i) j r c (by rw[<- List.getElem?_drop];exact hi) hj
theorem Za.take{w:World}{a:Option Addr}{k:Nat}{rows:List (List Value)}(h:Za w a k rows)(m:Nat):Za w a k (rows.take m):=by
 rcases h with h|⟨b,o,rfl,h⟩
 ·exact .inl (by rw[h];simp)
 ·refine .inr ⟨b,o,rfl,fun i j r c hi hj=>?_⟩
  rw[List.getElem?_take]at hi
  split at hi
  ·exact h i j r c hi hj
  ·cases hi
theorem Za.flat{w:World}{b o q:Nat}{rows:List (List Value)}(h:Za w (some (ad b o)) q rows)(hq:∀r∈rows,r.length=q):∀j u,rows.flatten[j]? =some u->w.cell? (((ad b o):Addr).add j)=some u:=fun j u hj=>by
 have hlt:=(lgs hj).1
 rw[jbx hq]at hlt
 have sJ:0<q:=by
  rcases Nat.eq_zero_or_pos q with e|e
  ·subst e;simp at hlt
  ·exact e
 have hi:j / q<rows.length:=Nat.div_lt_of_lt_mul (by rw[Nat.mul_comm];exact hlt)
 obtain⟨r,hr⟩:∃r,rows[j / q]? =some r:=⟨_,lgg hi⟩
 have fk:=hq r (lmg hr)
 obtain⟨c,hc⟩:∃c,r[j%q]? =some c:=⟨_,lgg (by rw[fk];exact Nat.mod_lt _ sJ)⟩
 have e1:=ja3 hq hr hc
 rw[show j / q*q+j%q=j by rw[Nat.mul_comm];exact Nat.div_add_mod j q]at e1
 rw[hj]at e1
 obtain rfl:=osi e1
 rw[addP]
 rcases h with h|⟨b',o',e,h⟩
 ·rw[h]at hr;simp at hr
 ·injection e with e
  injection e with u1 u2
  subst u1 u2
  have:=h (j / q) (j%q) r u hr hc
  rw[show o+j / q*q+j%q=o+j by have:=Nat.div_add_mod j q;rw[Nat.mul_comm]at this;omega]at this
  exact this
