/- Rows of structs of one's own, in general. -/
import Derived.Test.YtbbgeelamjmgaaaGreatDoorRelPd
import Derived.Deep.AppendLies
set_option maxHeartbeats 0
set_option linter.unusedSimpArgs false
namespace Go.Proofs.YtbbgeelamjmgaaaGreatDoor
open Go.RowKit
variable{b base k n o q size:Nat}{w w':World}{e:TypeId}{v:Value}{rows:List (List Value)}{xs:List Value}
theorem ja3:∀{rows:List (List Value)},(∀r∈rows,r.length=q)->∀{i j:Nat} {r:List Value} {c:Value},rows[i]? =some r->r[j]? =some c->rows.flatten[i*q+j]? =some c:=by
 intro rows
 induction rows with
 |nil=>intro _ i j r c h;simp at h
 | cons x rows ih=>
  intro hq i j r c hi hj;have hx:=hq x M;cases i with
  |zero=>
   simp at hi;subst hi;rw[List.flatten_cons,Nat.zero_mul,Nat.zero_add,N9 (pO hj).1];exact hj
  |succ i=>
   rw[List.flatten_cons,List.getElem?_append_right (by rw[hx,Nat.add_mul];omega),hx];rw[show(i+1)*q+j-q=i*q+j by rw[Nat.add_mul];omega];exact ih (λy hy=>hq y (lmc _ hy)) (by simpa using hi) hj
theorem jbx:∀{rows:List (List Value)},(∀r∈rows,r.length=q)->rows.flatten.length=rows.length*q:=by
 intro rows
 induction rows with
 |nil=>intro _;simp
 |cons x rows ih=>
  intro hq;rw[List.flatten_cons,FB,hq x M,ih λy hy=>hq y (lmc _ hy),List.length_cons,Nat.add_mul];omega
theorem jbe(h:w.ownsRow base e q v rows.length rows.flatten)(hq:∀r∈rows,r.length=q):∃a cap,v=U a rows.length cap/\Za w a q rows/\rows.length<=cap:=by
 rcases h.2 with⟨hv,h0⟩|⟨g,cap,cur,hv,hb,hg,hc,_,_,_⟩
 .exact⟨none,0,by rw[hv,h0],.inl (List.length_eq_zero_iff.mp h0),Q⟩
 .refine⟨_,cap,hv,.inr ⟨g,0,rfl,λi j r c hi hj=>?_⟩,hc⟩
  rw[hv]at h;have hl:=ja3 hq hi hj;have hlt:=(pO hl).1;rw[jbx hq]at hlt;rw[Nat.zero_add,h.cellAt _ hlt,hl]
theorem Ka(w:World)(cs:List Value)(t:TypeId):∀j u,cs[j]? =some u->(w.alloc (G cs.toArray t)).cell? (((O w.heap.size 0):Addr).add j)=some u:=λj u h=>World.news_of_block (heap_alloc_new w _) j u (by simpa using h)
theorem YR(hb:Bw w w'){b o:Nat}{v:Value}(h:w.cell? (O b o)=some v):w'.cell? (O b o)=some v:=Z7 hb h h
theorem rW(w:World):Bw w w.drew:=⟨rfl,rfl,rfl,ZD _,λ_ _=>rfl⟩
theorem vby(b o j:Nat):((O b o):Addr).add j=(O b (o+j)):=by unfold Addr.add;split<;>simp_all
theorem Dt(h:w.ownsRow base e size v n xs):∃a m c,v=U a m c:=by
 rcases h.2 with⟨hv,_⟩|⟨g,cap,cur,hv,_⟩
 .exact⟨_,_,_,hv⟩
 .exact⟨_,_,_,hv⟩
theorem Ez{fI:Nat}(h:w.ownsRow base e size v n xs)(hb:fI<=base):w.ownsRow fI e size v n xs:=by
 refine⟨h.1,?_⟩;rcases h.2 with h|⟨g,cap,cur,e1,e2,e3⟩
 .exact .inl h
 .exact .inr ⟨g,cap,cur,e1,Q,e3⟩
theorem uZ(h:w.ownsRow base e size v n xs)(hb:Bw w w'):w'.ownsRow base e size v n xs:=by
 refine⟨h.1,?_⟩;rcases h.2 with h|⟨g,cap,cur,e1,e2,e3,e4⟩
 .exact .inl h
 .exact .inr ⟨g,cap,cur,e1,e2,(hb.block g (Array.getElem?_eq_some_iff.1 e3).1).trans e3,e4⟩
theorem ja5(w:World)(t:TypeId)(q:Nat):(w.alloc (G #[] t)).ownsRow w.heap.size t q (U (some (O w.heap.size 0)) 0 0) 0 []:=
 ⟨M,.inr ⟨w.heap.size,0,#[],rfl,ZD _,heap_alloc_new w _,ZD _,by unfold maxLen;omega,M,M⟩⟩
theorem Za.drop{m:Nat}(h:Za w (some (O b o)) k rows):Za w (some (O b (o+m*k))) k (rows.drop m):=by
 rcases h with h|⟨b',o',e,h⟩
 .exact .inl (by rw[h];simp)
 .injection e with e
  injection e with u1 u2
  subst u1 u2;refine .inr ⟨_,_,rfl,λi j r c hi hj=>?_⟩;rw[show o+m*k+i*k+j=o+(m+i)*k+j by rw[Nat.add_mul];omega];exact h (m+i) j r c (by rw[<- List.getElem?_drop];exact hi) hj
theorem Za.take{a:Option Addr}(h:Za w a k rows)(m:Nat):Za w a k (rows.take m):=by
 rcases h with h|⟨b,o,rfl,h⟩
 .exact .inl (by rw[h];simp)
 .refine .inr ⟨b,o,rfl,λi j r c hi hj=>?_⟩
  rw[List.getElem?_take]at hi;split at hi
  .exact h i j r c hi hj
  .cases hi
theorem Za.flat(h:Za w (some (O b o)) q rows)(hq:∀r∈rows,r.length=q):∀j u,rows.flatten[j]? =some u->w.cell? (((O b o):Addr).add j)=some u:=λj u hj=>by
 have hlt:=(pO hj).1;rw[jbx hq]at hlt;have sJ:0<q:=by
  rcases Nat.eq_zero_or_pos q with e|e
  .subst e;simp at hlt
  .exact e
 have hi:j / q<rows.length:=Nat.div_lt_of_lt_mul (by rw[Nat.mul_comm];exact hlt);obtain⟨r,hr⟩:∃r,rows[j / q]? =some r:=⟨_,ZV hi⟩;have fk:=hq r (ui hr);obtain⟨c,hc⟩:∃c,r[j%q]? =some c:=⟨_,ZV (by rw[fk];exact Nat.mod_lt _ sJ)⟩;have e1:=ja3 hq hr hc;rw[show j / q*q+j%q=j by rw[Nat.mul_comm];exact Nat.div_add_mod j q]at e1;rw[hj]at e1;obtain rfl:=Z9 e1;rw[vby];rcases h with h|⟨b',o',e,h⟩
 .rw[h]at hr;simp at hr
 .injection e with e
  injection e with u1 u2
  subst u1 u2;have:=h (j / q) (j%q) r u hr hc;rw[show o+j / q*q+j%q=o+j by have:=Nat.div_add_mod j q;rw[Nat.mul_comm]at this;omega]at this;exact this
