/- Packed. -/
import Derived.Test.YtofdpfpdocpbpaaGreatDoorSAd
import Derived.Test.YtofdpfpdocpbpaaGreatDoorZonePd
import Derived.Test.YtofdpfpdocpbpaaGreatDoorTabPd
import Derived.BigQuiet
import Derived.Test.YtofdpfpdocpbpaaGreatDoorSBd
import Derived.Shelf.GgSortFunc.InsertionK
import Derived.Lib.OwnBridge
import Derived.Test.YtofdpfpdocpbpaaGreatDoorSDd
import Derived.Test.YtofdpfpdocpbpaaGreatDoorStrPd
import Derived.RangeFuncKeeps
import Derived.Sort.MapsRangeIn
import Derived.Test.YtofdpfpdocpbpaaGreatDoorShelfY
set_option maxRecDepth 100000
set_option maxHeartbeats 20000000
set_option linter.unusedSimpArgs false
namespace Go.Proofs.YtofdpfpdocpbpaaGreatDoor
section
open Go.RowKit
def jbq(a b:EntryD):Bool:=decide (a.at_<b.at_) || (decide (a.at_=b.at_)&&decide (a.id<b.id))
theorem jpy{a b:EntryD}(h:a.at_<b.at_):jbq a b=true:=by unfold jbq;rw[decide_eq_true h];rfl
theorem jxr{a b:EntryD}(h:b.at_<a.at_):jbq a b=false:=by unfold jbq;rw[decide_eq_false (by omega),decide_eq_false (by omega)];rfl
theorem jxq{a b:EntryD}(h:a.at_=b.at_)(h2:a.id<b.id):jbq a b=true:=by unfold jbq;rw[decide_eq_true h,decide_eq_true h2];simp
theorem jxp{a b:EntryD}(h:a.at_=b.at_)(h2:¬a.id<b.id):jbq a b=false:=by unfold jbq;rw[decide_eq_false (by omega),decide_eq_false h2];simp
def insX:List EntryD->EntryD->List EntryD
 |[],e=>[e]
 |x::l,e=>if jbq x e=true then x::insX l e else e::x::l
theorem j1n(L:List EntryD)(e:EntryD):(insX L e).length=L.length+1:=by
 induction L with
 |nil=>rfl
 |cons a L ih=>rw[insX];split<;>simp[ih]
theorem jbz{L:List EntryD}:∀r∈L.map EntryD.cs,r.length=2:=fun r hr=>by
 obtain⟨x,_,rfl⟩:=List.mem_map.1 hr
 rfl
theorem jqx{L:List EntryD}:∀u∈(L.map EntryD.cs).flatten,u.oneCell'=true:=fun u hu=>by
 simp only[List.mem_flatten,List.mem_map]at hu
 obtain⟨r,⟨t,_,rfl⟩,hr⟩:=hu
 simp[EntryD.cs]at hr
 rcases hr with rfl|rfl<;>rfl
def Zl(w:World)(base:Nat)(v:Value)(L:List EntryD):Prop:=w.ownsRow base 108 2 v L.length (L.map EntryD.cs).flatten
theorem Zl.cell{w:World}{base g n cap:Nat}{L:List EntryD}(h:Zl w base (.slice (some ⟨g,0,none⟩) n cap) L){j:Nat}{u:Value}(hu:(L.map EntryD.cs).flatten[j]? =some u):w.cell? ⟨g,j,none⟩=some u:=by
 have h':w.ownsRow base 108 2 (.slice (some ⟨g,0,none⟩) n cap) L.length (L.map EntryD.cs).flatten:=h
 have hl:=(List.getElem?_eq_some_iff.1 hu).1
 rcases h'.2 with⟨hv,_⟩|⟨g2,c2,cur,hv,_⟩
 ·cases hv
 ·injection hv with e1 e2 e3
  subst e2
  rw[h'.cellAt j (by rw[jen jbz,List.length_map]at hl;omega)]
  exact hu
end
section
open Go.RowKit
theorem j24(x y:EntryD):decide (orI (cmpI x.at_ y.at_) (cmpI x.id y.id)<0)=jbq x y:=by
 unfold orI cmpI
 by_cases h1:x.at_<y.at_
 ·rw[jpy h1,if_pos h1,if_neg (by decide)];rfl
 ·by_cases h2:y.at_<x.at_
  ·rw[jxr h2,if_neg h1,if_pos h2,if_neg (by decide)];rfl
  ·have e:x.at_=y.at_:=by omega
   rw[if_neg h1,if_neg h2,if_pos rfl]
   by_cases h3:x.id<y.id
   ·rw[jxq e h3,if_pos h3];rfl
   ·rw[jxp e h3,if_neg h3]
    by_cases h4:y.id<x.id
    ·rw[if_pos h4];rfl
    ·rw[if_neg h4];rfl
theorem lessX_iff{x y:EntryD}:jbq x y=true↔x.at_<y.at_\/(x.at_=y.at_/\x.id<y.id):=by
 by_cases h1:x.at_<y.at_
 ·rw[jpy h1];exact⟨fun _=>.inl h1,fun _=>rfl⟩
 ·by_cases h2:y.at_<x.at_
  ·rw[jxr h2];exact⟨fun h=>by(cases h),fun h=>by(exfalso;omega)⟩
  ·have e:x.at_=y.at_:=by omega
   by_cases h3:x.id<y.id
   ·rw[jxq e h3];exact⟨fun _=>.inr ⟨e,h3⟩,fun _=>rfl⟩
   ·rw[jxp e h3];exact⟨fun h=>by(cases h),fun h=>by(exfalso;omega)⟩
theorem jiw{x y:EntryD}(h1:jbq x y=false)(h2:jbq y x=false):x=y:=by
 have a:¬(x.at_<y.at_\/(x.at_=y.at_/\x.id<y.id)):=fun h=>by rw[lessX_iff.mpr h]at h1;cases h1
 have b:¬(y.at_<x.at_\/(y.at_=x.at_/\y.id<x.id)):=fun h=>by rw[lessX_iff.mpr h]at h2;cases h2
 cases x;cases y
 simp only at a b
 congr 1<;>omega
end
section
open Go.RowKit
def jh6(L:List EntryD):Prop:=L.Pairwise fun x y=>jbq x y=true
theorem jfv{x y:EntryD}(h1:jbq x y=true)(h2:jbq y x=true):False:=by
 have a:=lessX_iff.mp h1
 have b:=lessX_iff.mp h2
 omega
theorem jiv{x y z:EntryD}(h1:jbq x y=true)(h2:jbq y z=true):jbq x z=true:=by
 have a:=lessX_iff.mp h1
 have b:=lessX_iff.mp h2
 exact lessX_iff.mpr (by omega)
theorem insX_mem{l:List EntryD}{e x:EntryD}:x∈insX l e↔x=e\/x∈l:=by
 induction l with
 |nil=>simp[insX]
 |cons a l ih=>
  rw[insX]
  split
  ·simp only[List.mem_cons,ih]
   constructor
   ·rintro(h|h|h)
    ·exact .inr (.inl h)
    ·exact .inl h
    ·exact .inr (.inr h)
   ·rintro(h|h|h)
    ·exact .inr (.inl h)
    ·exact .inl h
    ·exact .inr (.inr h)
  ·simp only[List.mem_cons]
theorem j58{l:List EntryD}{e:EntryD}(h:jh6 l)(hn:e∉l):jh6 (insX l e):=by
 unfold jh6 at *
 induction l with
 |nil=>simp[insX]
 |cons a l ih=>
  have h':=List.pairwise_cons.mp h
  rw[insX]
  split
  ·rename_i ha
   refine List.pairwise_cons.mpr ⟨fun x hx=>?_,ih h'.2 fun hx=>hn (List.mem_cons_of_mem _ hx)⟩
   rcases insX_mem.mp hx with rfl|hx
   ·exact ha
   ·exact h'.1 x hx
  ·rename_i ha
   have hae:jbq e a=true:=by
    cases hb:jbq e a
    ·exact absurd (jiw (by simpa using ha) hb) (fun h=>hn (by rw[h];simp))
    ·rfl
   refine List.pairwise_cons.mpr ⟨fun x hx=>?_,h⟩
   rcases List.mem_cons.mp hx with rfl|hx
   ·exact hae
   ·exact jiv hae (h'.1 x hx)
theorem jvn{L M:List EntryD}(hL:jh6 L)(hM:jh6 M)(h:∀e,e∈L↔e∈M):L=M:=by
 unfold jh6 at *
 induction L generalizing M with
 |nil=>
  cases M with
  |nil=>rfl
  |cons y M=>exact absurd ((h y).mpr (by simp)) (by simp)
 |cons x L ih=>
  cases M with
  |nil=>exact absurd ((h x).mp (by simp)) (by simp)
  |cons y M=>
   have hL':=List.pairwise_cons.mp hL
   have hM':=List.pairwise_cons.mp hM
   have hxy:x=y:=by
    rcases List.mem_cons.mp ((h x).mp (by simp))with e|e
    ·exact e
    ·rcases List.mem_cons.mp ((h y).mpr (by simp))with e2|e2
     ·exact e2.symm
     ·exact(jfv (hM'.1 x e) (hL'.1 y e2)).elim
   subst hxy
   rw[ih hL'.2 hM'.2 fun e=>?_]
   constructor
   ·intro he
    rcases List.mem_cons.mp ((h e).mp (List.mem_cons_of_mem _ he))with e2|e2
    ·subst e2;exact(jfv (hL'.1 _ he) (hL'.1 _ he)).elim
    ·exact e2
   ·intro he
    rcases List.mem_cons.mp ((h e).mpr (List.mem_cons_of_mem _ he))with e2|e2
    ·subst e2;exact(jfv (hM'.1 _ he) (hM'.1 _ he)).elim
    ·exact e2
end
section
open Go.RowKit Go.Sort
theorem jmp{α:Type}{enc:α->List Value}{k:Nat}(hk:∀x,(enc x).length=k){P:List α}:∀r∈P.map enc,r.length=k:=fun r hr=>by
 obtain⟨x,_,rfl⟩:=List.mem_map.1 hr
 exact hk x
theorem jjw{k:Nat}:∀{rows:List (List Value)},(∀r∈rows,r.length=k)->rows.flatten.length=rows.length*k
 |[],_=>by simp
 |r::rows,h=>by
  rw[List.flatten_cons,List.length_append,jjw fun x hx=>h x (List.mem_cons_of_mem _ hx),h r (List.mem_cons_self ..),List.length_cons,Nat.add_mul]
  omega
theorem joy{α:Type}[Inhabited α]{enc:α->List Value}{k:Nat}(hk:∀x,(enc x).length=k)(h0:0<k)(P:List α){t:Nat}(h:t<P.length*k):(P.map enc).flatten[t]? =some (enc P.toArray[t / k]!)[t%k]! :=by
 have h1:t / k<P.length:=(Nat.div_lt_iff_lt_mul h0).mpr h
 have h2:P[t / k]? =some P.toArray[t / k]! :=by rw[List.getElem?_eq_getElem h1];simp[getElem!_pos,h1]
 have h4:t%k<(enc P.toArray[t / k]!).length:=by rw[hk];exact Nat.mod_lt _ h0
 have h3:=jbl (jmp hk (P:=P)) (i:=t / k) (j:=t%k) (by rw[List.getElem?_map,h2];rfl) (c:=(enc P.toArray[t / k]!)[t%k]!) (by rw[List.getElem?_eq_getElem h4,getElem!_pos (enc P.toArray[t / k]!) (t%k) h4])
 rw[show t / k*k+t%k=t by rw[Nat.mul_comm];exact Nat.div_add_mod t k]at h3
 exact h3
theorem j35{α:Type}[Inhabited α]{enc:α->List Value}{k:Nat}(hk:∀x,(enc x).length=k)(h0:0<k){e:TypeId}{w:World}{base g n cap:Nat}{P:List α}(h:w.ownsRow base e k (.slice (some ⟨g,0,none⟩) n cap) P.length (P.map enc).flatten):HoldsK enc k w g 0 P.toArray/\g<w.heap.size/\base<=g/\n=P.length/\n<=cap:=by
 have hl:(P.map enc).flatten.length=P.length*k:=by rw[jjw (jmp hk),List.length_map]
 rcases h.2 with⟨e0,_⟩|⟨g',cap',cur,e0,hb,hg,hn,hm,hs,ht⟩
 ·cases e0
 injection e0 with e1 e2 e3
 injection e1 with e1
 injection e1 with e1
 subst e1 e2 e3
 refine⟨fun j hj=>?_,(Array.getElem?_eq_some_iff.1 hg).1,hb,rfl,hn⟩
 have hj2:j<P.length*k:=by simpa using hj
 refine⟨?_,by simp[World.frozen?,hg]⟩
 rw[get_flatK _ _ _ j (by simpa using hj2),Nat.zero_add]
 have hq:=joy hk h0 P hj2
 rw[<- ht,List.getElem?_take,if_pos hj2,Array.getElem?_toList]at hq
 simp[World.cell?,hg,hq]
theorem putG{α:Type}[Inhabited α]{enc:α->List Value}{k:Nat}(hk:∀x,(enc x).length=k)(h0:0<k){e:TypeId}{w:World}{base g n cap q:Nat}{P Q:List α}{os:Array Obj}(h:w.ownsRow base e k (.slice (some ⟨g,0,none⟩) n cap) P.length (P.map enc).flatten)(hQ:Q.length=P.length):(sortWorldK enc k w g 0 q Q.toArray os).ownsRow base e k (.slice (some ⟨g,0,none⟩) n cap) Q.length (Q.map enc).flatten/\w.grownBy (sortWorldK enc k w g 0 q Q.toArray os) (some g):=by
 have hl:(Q.map enc).flatten.length=Q.length*k:=by rw[jjw (jmp hk),List.length_map]
 rcases h.2 with⟨e0,_⟩|⟨g',cap',cur,e0,hb,hg,hn,hm,hs,ht⟩
 ·cases e0
 injection e0 with e1 e2 e3
 injection e1 with e1
 injection e1 with e1
 subst e1 e2 e3
 have hlt:g<w.heap.size:=(Array.getElem?_eq_some_iff.1 hg).1
 have hle:Q.length*k<=cap*k:=Nat.mul_le_mul_right _ (by omega)
 constructor
 ·refine⟨hl,.inr ⟨g,cap,putCells id 0 (flatK enc k Q.toArray) cur,by rw[hQ],hb,?_,by omega,hm,by simpa [putCells]using hs,?_⟩⟩
  ·unfold sortWorldK putRowK
   rw[heap_grow_old _ _ (by simpa using hlt)]
   simp[putRow,mapBlock,Sort.ahead,Array.getElem?_modify,hg,onCells]
  ·apply List.ext_getElem?
   intro j
   rw[List.getElem?_take,Array.getElem?_toList]
   by_cases hj:j<Q.length*k
   ·have hjc:j<cur.size:=by omega
    rw[if_pos hj,joy hk h0 Q hj]
    simp only[putCells,Array.getElem?_mapIdx,Array.getElem?_eq_getElem hjc,Option.map_some]
    rw[if_pos (by simp;omega),Nat.sub_zero,get_flatK _ _ _ j (by simpa using hj)]
    rfl
   ·rw[if_neg hj,List.getElem?_eq_none (by omega)]
 ·refine⟨rfl,rfl,rfl,by simp[sortWorldK,putRowK],fun i hi hne=>?_⟩
  unfold sortWorldK putRowK
  rw[heap_grow_old _ _ (by simpa using hi)]
  have:g≠i:=fun e=>hne (by rw[e])
  simp[putRow,mapBlock,Sort.ahead,Array.getElem?_modify,this]
end
section
open Go.RowKit Go.Sort
def jhk(P:List EntryD):List EntryD:=P.mergeSort fun x y=> !jbq y x
theorem jwf{P:List EntryD}{e:EntryD}:e∈jhk P↔e∈P:=(List.mergeSort_perm P _).mem_iff
theorem jwg(P:List EntryD):(jhk P).length=P.length:=List.length_mergeSort P
theorem jtt(x:EntryD):jbq x x=false:=by
 cases h:jbq x x
 ·rfl
 ·exact(jfv h h).elim
theorem jno{x y z:EntryD}(h1:jbq x y=false)(h2:jbq y z=false):jbq x z=false:=by
 cases h:jbq x z
 ·rfl
 ·have a:¬(x.at_<y.at_\/(x.at_=y.at_/\x.id<y.id)):=fun h=>by rw[lessX_iff.mpr h]at h1;cases h1
  have b:¬(y.at_<z.at_\/(y.at_=z.at_/\y.id<z.id)):=fun h=>by rw[lessX_iff.mpr h]at h2;cases h2
  have c:=lessX_iff.mp h
  exfalso
  omega
theorem j0b{P:List EntryD}(h:P.Nodup):jh6 (jhk P):=by
 have hs:=List.pairwise_mergeSort (le:=fun(x y:EntryD)=> !jbq y x) (fun a b c h1 h2=>by
  simp only[Bool.not_eq_eq_eq_not,Bool.not_true]at *
  exact jno h2 h1) (fun a b=>by
  cases h1:jbq b a
  ·rfl
  ·cases h2:jbq a b
   ·rfl
   ·exact(jfv h1 h2).elim) P
 have hn:(jhk P).Nodup:=(List.mergeSort_perm P _).nodup_iff.mpr h
 unfold jh6
 refine(List.pairwise_and_iff.mpr ⟨hs,hn⟩).imp fun {x y} hxy=>?_
 obtain⟨h1,h2⟩:=hxy
 cases h3:jbq x y
 ·exact absurd (jiw h3 (by simpa using h1)) h2
 ·rfl
end
section
open Go.RowKit Go.Shelf Go.ChangeMaps Go.MapKept
attribute [local go_sem] Oper.semAt_some
structure GotE(f:Int->Option EventD)(left:Lit->Bool)(P:List EventD):Prop where
 nd:P.Nodup
 mem:∀x,x∈P↔f x.id=some x/\left (.int .i64 x.id)=false
theorem GotE.step{f:Int->Option EventD}{left:Lit->Bool}{P:List EventD}{c:EventD}(h:GotE f left P)(hc:f c.id=some c)(hl:left (.int .i64 c.id)=true):GotE f (fun z=>left z&& !Lit.sameKey z (.int .i64 c.id)) (P++[c]):=by
 refine⟨List.nodup_append.mpr ⟨h.nd,by simp,fun x hx y hy e=>?_⟩,fun x=>?_⟩
 ·simp only[List.mem_singleton]at hy
  subst hy e
  rw[((h.mem x).mp hx).2]at hl
  cases hl
 ·rw[List.mem_append,List.mem_singleton,h.mem]
  constructor
  ·rintro(⟨h1,h2⟩|rfl)
   ·exact⟨h1,by simp only[h2,Bool.false_and]⟩
   ·have hk:WideAt.IsKeyLit (.int .i64 x.id):=trivial
    exact⟨hc,by rw[WideAt.sameKey_self hk];simp⟩
  ·rintro⟨h1,h2⟩
   rcases jfw h2 with h|h
   ·exact .inl ⟨h1,h⟩
   ·rw[h,hc]at h1
    exact .inr (Option.some.inj h1).symm
theorem GotE.done{f:Int->Option EventD}{left:Lit->Bool}{P L:List EventD}(h:GotE f left P)(hl:∀kl,left kl=false)(hT:Jc f L)(hL:L.Pairwise fun x y=>x.id<y.id):P.Perm L:=
 (List.perm_ext_iff_of_nodup h.nd (hL.imp fun {x y} hxy e=>by subst e;omega)).mpr fun x=>by rw[h.mem,hT.mem,hl];simp
theorem js8 (F:Fence) (n:Nat) (h8:F.fn 271) (hro:F.round=none) (hn:1<=n) (l Bm b nn:Nat) (f:Int->Option EventD) (L:List EventD) (J Jx:List EventD->World->Prop)
  (hY:∀pre x W,J pre W->pre.length<L.length->YieldAt F (n-1) Tryz.prog l #[x.v] W fun e W'=>
   (e=.returned (.bool true)/\J (pre++[x]) W'/\KeepsWalks W W')\/(e=.returned (.bool false)/\Jx (pre++[x]) W'))
  (W:World) (hJ:AbidesFrom W.heap.size J) (hm:W.cell? ⟨Bm,0,none⟩=some (.map (some b))) (hM:Zg W b nn f) (hT:Jc f L) (hL:L.Pairwise fun x y=>x.id<y.id) (h0:J [] W):
  CallsIn F n Tryz.prog 271 #[.func (.yield l) #[] #[],.pointer (some ⟨Bm,0,none⟩)] W fun e W'=>(∃v,e=.returned v)/\
   ((∃xs,xs.Perm L/\J xs W')\/(∃pre,True/\Jx pre W')):=by
 obtain⟨D,hown,hD⟩:=hM.own
 have hsz:Maps.size D=L.length:=jdo hown hD hT hL
 have HT:=hid hT
 have HD:=hid hD
 have HU:=hid hL
 clear hT hD hL hM
 refine callsIn_of_wp Tryz.func271 rfl h8 ?_ hro
 simp only[Tryz.ntmps271,List.size_toArray,List.length_cons,List.length_nil,Nat.reduceAdd,Nat.reduceSub,Array.replicate_succ,Array.replicate_zero,List.push_toArray,List.append_toArray,List.nil_append,List.cons_append]
 gi_wp2_with (first
  |(gi_at_range;refine wpListIn_range_own _ rfl _ 75 rfl 2 99 (Maps.int_keyed keyT) mapT jcb b nn D rfl hown ?_;intro w0 hrg0 hg0 hz0)
  |gi_in)
 go_frame
 gi_loopw [4] (fun _ wr=>∃(left:Lit->Bool) (cnt:Nat) (ps:List EventD),wr.ranges Tryz.prog 2 jcb b W.heap.size nn D left cnt/\ps.length+cnt<=L.length/\Hid (GotE f left ps)/\J ps wr)
  (fun _ wr=>wr.rangeLeft b W.heap.size)
 case atStart=>
  exact⟨_,_,[],hrg0,by rw[hsz];simp,⟨List.nodup_nil,fun x=>⟨fun h=>by simp at h,fun⟨h1,h2⟩=>by rw[jgs HD.out h1]at h2;cases h2⟩⟩,hJ [] W w0 none h0 hg0 (fun r e=>by cases e)⟩
 case round=>
  obtain⟨left,cnt,ps,hrg,hcs,HG,hJs⟩:=hrel
  gi_wp2_with (first
   |(gi_at_next;refine wpListIn_next_ranges _ rfl _ rfl 2 (Maps.int_keyed keyT) jcb (Value.int .i64) (fun c:EventD=>Value.agg #[.int .i64 c.id,.string c.name,.string c.zone,.int .i64 c.wall,.int .i64 c.gap,.int .i64 c.fold]) (fun key kl hkey=>by(obtain⟨x,rfl,_⟩:=Maps.keyOf_int_inv keyT hkey;exact⟨x,rfl⟩)) (fun v y hv=>by(obtain⟨c,rfl,_⟩:=jb3 hv;exact⟨c,rfl⟩)) b W.heap.size nn D left cnt rfl hrg ?_ ?_)
   |gi_in)
  ·intro _ hl0
   gi_wp2
   go_end0
   exact⟨⟨_,rfl⟩,.inl ⟨_,HG.out.done hl0 HT.out HU.out,hJs⟩⟩
  ·intro x c kl y ys w2 cnt2 hkey hlk hv1 hat hrg2 hlt hg2 hs2 hen
   have HF:Hid (f x=some c/\c.id=x/\kl=.int .i64 x):=by
    obtain⟨x',ex,rfl,_⟩:=Maps.keyOf_int_inv keyT hkey
    cases ex
    obtain⟨c',ec,ez⟩:=jb3 hv1
    simp only[Prod.mk.injEq]at ez
    obtain⟨rfl,_⟩:=ez
    have:c'=c:=by cases c;cases c';simp only[EventD.v,Value.agg.injEq]at ec;simp_all
    subst this
    have h1:=jpu HD.out hat
    exact⟨h1,HT.out.id _ _ h1,rfl⟩
   have hJ2:J ps w2:=hJ _ wr w2 (some W.heap.size) hJs hg2 (fun r e=>by cases e;exact⟨Nat.le_refl _,hrg.iter_walk⟩)
   have hrg3:=hrg2.alloc (.cells #[.int .i64 c.id,.string c.name,.string c.zone,.int .i64 c.wall,.int .i64 c.gap,.int .i64 c.fold] 99)
   have hyy:=hY ps c (w2.alloc (.cells #[.int .i64 c.id,.string c.name,.string c.zone,.int .i64 c.wall,.int .i64 c.gap,.int .i64 c.fold] 99)) (jhj hJ hJ2 _) (by omega)
   obtain⟨e0,e1,e2,e3,e4,e5⟩:(fun z:World=>z.cell? ⟨w2.heap.size,0,none⟩=some (.int .i64 c.id)/\z.cell? ⟨w2.heap.size,1,none⟩=some (.string c.name)/\z.cell? ⟨w2.heap.size,2,none⟩=some (.string c.zone)/\z.cell? ⟨w2.heap.size,3,none⟩=some (.int .i64 c.wall)/\z.cell? ⟨w2.heap.size,4,none⟩=some (.int .i64 c.gap)/\z.cell? ⟨w2.heap.size,5,none⟩=some (.int .i64 c.fold)) (w2.alloc (.cells #[.int .i64 c.id,.string c.name,.string c.zone,.int .i64 c.wall,.int .i64 c.gap,.int .i64 c.fold] 99)):=by simp[go_sem]
   simp only[EventD.v]at hyy
   obtain⟨fn,tmps,assign,body,hy,hR⟩:=hyy
   have HG2:Hid (GotE f (fun z=>left z&& !Lit.sameKey z kl) (ps++[c])):=by
    have h:=HF.out
    rw[h.2.2, <- h.2.1]
    exact HG.out.step (by rw[h.2.1];exact h.1) (by rw[h.2.1, <- h.2.2];exact hlk)
   clear hs2 hv1 hat hkey hY
   gi_wp2
   refine hR.mono ?_
   rintro e W3 (⟨rfl,hJ3,hk3⟩|⟨rfl,hJx3⟩)
   ·gi_wp2
    have hrg4:=hrg3.of_walks hk3
    go_roundw
    case rel=>exact⟨_,cnt2,ps++[c],hrg4,by simp;omega,HG2,hJ3⟩
    case measure=>rw[hrg4.left_eq,hrg.left_eq];exact hlt
   ·gi_wp2
    refine bodyPost_ret (results_none rfl _ _ _) rfl ?_
    exact⟨⟨_,rfl⟩,.inr ⟨_,trivial,hJx3⟩⟩
theorem jm1(F:Fence)(n:Nat)(h8:F.fn 271)(hro:F.round=none)(hn:1<=n)(Bm b nn:Nat)(f:Int->Option EventD)(L:List EventD)(w:World)(hBm:Bm<w.heap.size)(hm:w.cell? ⟨Bm,0,none⟩=some (.map (some b)))(hM:Zg w b nn f)(hT:Jc f L)(hL:L.Pairwise fun x y=>x.id<y.id):
  SeqStopsK F n Tryz.prog 271 #[.pointer (some ⟨Bm,0,none⟩)] (fun x:EventD=>#[x.v]) KeepsWalks (fun xs=>xs.Perm L) (fun _=>True) L.length w:=fun l J Jx W hW hJ _ hY h0=>
 js8 F n h8 hro hn l Bm b nn f L J Jx hY W hJ ((hW.cell (p:=⟨Bm,0,none⟩) hBm).trans hm) (hM.below hW) hT hL h0
theorem jp5(b:Nat)(w:World):
  Calls Tryz.prog 238 #[.map (some b)] w fun e w'=>e=.returned (.func (.func 271) #[] #[.pointer (some ⟨w.heap.size,0,none⟩)])/\w'=w.alloc (.cells #[.map (some b)] 75):=by
 go_enter Tryz.func238,Tryz.ntmps238
 go_wp2
 go_ret
 exact⟨rfl,rfl⟩
end
section
open Go.RowKit Go.Sort Go.Lib
theorem j6z(x y:EventD)(w:World):Calls Tryz.prog 239 #[x.v,y.v] w fun e w'=>e=.returned (.int .i64 (cmpI x.id y.id))/\∃n os,w'=Go.Sort.grow (w.drewN n) os:=by
 obtain⟨x0,x1,x2,x3,x4,x5⟩:=x
 obtain⟨y0,y1,y2,y3,y4,y5⟩:=y
 simp only[EventD.v]
 have h1:=fun x y w=>jj3 x y w
 go_enter Tryz.func239,Tryz.ntmps239
 go_wp2_with fail
 refine(h1 _ _ _).mono ?_
 rintro e w3 ⟨rfl,rfl⟩
 go_wp2
 go_ret
 exact⟨rfl,0,#[_,_],by rw[Go.Sort.alloc_eq_grow,Go.Sort.alloc_eq_grow,Go.Sort.grow_grow];rfl⟩
abbrev InE(P:List EventD):={ x:EventD // x∈P }
def cfE{P:List EventD}(x y:InE P):Int:=cmpI x.1.id y.1.id
theorem ltE{P:List EventD}(x y:InE P):ltOf cfE x y=decide (x.1.id<y.1.id):=by
 unfold ltOf cfE cmpI
 by_cases h:x.1.id<y.1.id
 ·simp[h]
 ·by_cases h2:y.1.id<x.1.id<;>simp[h,h2]
theorem swoE(P:List EventD):SWO (ltOf (cfE (P:=P))) where
 irrefl x:=by rw[ltE];simp
 trans x y z h1 h2:=by rw[ltE]at *;simp only[decide_eq_true_eq]at *;omega
 ntrans x y z h1 h2:=by rw[ltE]at *;simp only[decide_eq_false_iff_not]at *;omega
theorem sortE(P:List EventD)(base:Nat)(v:Value)(w:World)(hO:Zq w base v P)(hd:∀x∈P,∀y∈P,x.id=y.id->x=y)(hl:P.length<=1048576):
  Calls Tryz.prog 270 #[v,.func (.func 239) #[] #[]] w fun e w'=>e=.returned (.tuple #[])/\∃Q:List EventD,Q.Perm P/\(Q.Pairwise fun x y=>x.id<=y.id)/\Zq w' base v Q/\w.grownBy w' v.ownBlock:=by
 rcases hO.2 with⟨rfl,h0⟩|⟨g,cap,cur,rfl,hb,hh,_⟩
 ·have hP:P=[]:=List.length_eq_zero_iff.mp h0
  subst hP
  refine(Tryz.sortFuncY_none none 0 _ w).mono ?_
  rintro e w' ⟨rfl,rfl⟩
  exact⟨rfl,[],.refl _,.nil,hO,⟨rfl,rfl,rfl,Nat.le_refl _,fun _ _ _=>rfl⟩⟩
 ·cases hP:P with
  |nil=>
   subst hP
   refine(Tryz.sortFuncY_none (some ⟨g,0,none⟩) cap _ w).mono ?_
   rintro e w' ⟨rfl,rfl⟩
   exact⟨rfl,[],.refl _,.nil,hO,⟨rfl,rfl,rfl,Nat.le_refl _,fun _ _ _=>rfl⟩⟩
  |cons z zs=>
  rw[<- hP]
  haveI:Inhabited (InE P):=⟨⟨z,by rw[hP];exact List.mem_cons_self ..⟩⟩
  have hk:∀x:InE P,x.1.cs.length=6:=fun _=>rfl
  have hm:P.attach.map (fun x:InE P=>x.1.cs)=P.map EventD.cs:=by rw[List.attach_map_val]
  have hA:w.ownsRow base 99 6 (.slice (some ⟨g,0,none⟩) P.length cap) P.attach.length (P.attach.map fun x:InE P=>x.1.cs).flatten:=by rw[hm,List.length_attach];exact hO
  obtain⟨hH,hlt,_⟩:=j35 hk (by decide) hA
  have hC:=Tryz.sortFuncY_total 6 Tryz.isAgg99 Tryz.sizeOf99 (fun x:InE P=>x.1.cs) hk (fun x v hv=>by simp[EventD.cs]at hv;rcases hv with rfl|rfl|rfl|rfl|rfl|rfl<;>rfl) cfE (swoE P) 239 #[] g 0 cap P.attach.toArray w (fun _ _=>by kernel_rfl) (fun _ _ _ _ x y=>j6z x.1 y.1 _) hH hlt (by simp;omega) (fun x y h1 h2=>by
   rw[ltE]at h1 h2
   simp only[decide_eq_false_iff_not]at h1 h2
   exact Subtype.ext (hd _ x.2 _ y.2 (by omega)))
  refine Calls.mono (by simpa using hC) ?_
  rintro e w' ⟨rfl,q,os,rfl⟩
  generalize hQ:(P.attach.toArray.toList.mergeSort fun x y=> !(ltOf cfE) y x)=Q
  have hp:Q.Perm P.attach:=by rw[<- hQ];exact List.mergeSort_perm _ _
  have hs:Q.Pairwise fun x y=>x.1.id<=y.1.id:=by
   rw[<- hQ]
   refine(List.pairwise_mergeSort (fun a b c h1 h2=>?_) (fun a b=>?_) _).imp fun {x y} h=>?_
   ·rw[ltE]at *;simp at *;omega
   ·rw[ltE,ltE];simp;omega
   ·rw[ltE]at h;simpa using h
  have h:=putG hk (by decide) (q:=q) (os:=os) (Q:=Q) hA hp.length_eq
  refine⟨rfl,Q.map Subtype.val,?_,List.pairwise_map.mpr hs,?_,h.2⟩
  ·have:=hp.map Subtype.val
   rwa [List.attach_map_subtype_val]at this
  ·show World.ownsRow _ _ _ _ _ _ _
   rw[List.length_map,List.map_map]
   exact h.1
theorem j5h{L P Q:List EventD}(hL:L.Pairwise fun x y=>x.id<y.id)(hP:P.Perm L)(hQ:Q.Perm P)(hs:Q.Pairwise fun x y=>x.id<=y.id):Q=L:=by
 have hq:=hQ.trans hP
 have hn:Q.Pairwise fun x y=>x.id≠y.id:=hq.symm.pairwise (hL.imp fun {x y} h=>by omega) fun {x y} h=>Ne.symm h
 exact j7o ((List.pairwise_and_iff.mpr ⟨hs,hn⟩).imp fun {x y} h=>by have:=h.1;have:=h.2;omega) hL fun e=>hq.mem_iff
theorem j0v{L P:List EventD}(hL:L.Pairwise fun x y=>x.id<y.id)(hP:P.Perm L):∀x∈P,∀y∈P,x.id=y.id->x=y:=fun x hx y hy e=>by
 obtain⟨i,hi⟩:=List.getElem?_of_mem (hP.mem_iff.mp hx)
 obtain⟨j,hj⟩:=List.getElem?_of_mem (hP.mem_iff.mp hy)
 obtain⟨hi1,hi2⟩:=List.getElem?_eq_some_iff.mp hi
 obtain⟨hj1,hj2⟩:=List.getElem?_eq_some_iff.mp hj
 have hp:=List.pairwise_iff_getElem.mp hL
 rcases Nat.lt_trichotomy i j with h|h|h
 ·have:=hp i j hi1 hj1 h;rw[hi2,hj2]at this;omega
 ·subst h;rw[<- hi2, <- hj2]
 ·have:=hp j i hj1 hi1 h;rw[hi2,hj2]at this;omega
end
section
open Go.RowKit Go.Shelf
attribute [local go_sem] Oper.semAt_some
theorem jo9(F:Fence)(n:Nat)(h1f:F.fn 293)(h8:F.fn 271)(hro:F.round=none)(hn:3<=n)(Bm b nn:Nat)(f:Int->Option EventD)(L:List EventD)(w:World)(hBm:Bm<w.heap.size)(hm:w.cell? ⟨Bm,0,none⟩=some (.map (some b)))(hM:Zg w b nn f)(hT:Jc f L)(hL:L.Pairwise fun x y=>x.id<y.id)(hl:L.length<=1048576):
  CallsIn F n Tryz.prog 293 #[.slice none 0 0,.func (.func 271) #[] #[.pointer (some ⟨Bm,0,none⟩)]] w fun e w'=>∃v xs,e=.returned v/\xs.Perm L/\Zq w' w.heap.size v xs/\Below w.heap.size w w':=by
 have h1:1<=n:=by omega
 obtain⟨i0,hi,hz0,hz1,hz2⟩:=jtx
 refine callsIn_of_wp_marks Tryz.func293 rfl h1f ?_ hro
 simp only[Tryz.ntmps293,List.size_toArray,List.length_cons,List.length_nil,Nat.reduceAdd,Nat.reduceSub,Array.replicate_succ,Array.replicate_zero,List.push_toArray,List.append_toArray,List.nil_append,List.cons_append]
 gi_wp2
 have bO:=Boxed.new w 232 (.slice none 0 0)
 have hB0:Below w.heap.size w (w.alloc (.cells #[.slice none 0 0] 232)):=qal w _
 have hs0:(w.alloc (.cells #[.slice none 0 0] 232)).heap.size=w.heap.size+1:=by simp
 refine wpIn_rangeFunc_ownH hro h1 (gf:=271) (lb:=#[.pointer (some ⟨Bm,0,none⟩)]) rfl h8 (enters_of Tryz.func271 (by kernel_rfl) rfl)
  (jm1 F (n-1) h8 hro (by omega) Bm b nn f L _ (by simp;omega) (jab hB0 hm) (hM.below hB0) hT hL) walksK_t walksK_b (Below.refl _ _) (fun _=>rfl)
  (fun pre W=>(∃v,Boxed W w.heap.size 232 v/\W.ownsRow w.heap.size 99 6 v pre.length (pre.map EventD.cs).flatten/\True)/\Below w.heap.size w W)
  (fun _ _ _=>False)
  (OwnFrom.and (Own.from (holdsRow_own w.heap.size w.heap.size 232 99 6 (fun pre=>pre.length) (fun pre:List EventD=>(pre.map EventD.cs).flatten) (fun _ _=>True)) _) (ownFrom_below (Nat.le_refl _) (by simp)))
  (fun _ _ _ _ _ hs _ _=>hs)
  ⟨⟨_,bO,World.ownsRow_nil _ _ _ _,trivial⟩,hB0⟩
  (fun x a' W=>∃Bx,W.heap[Bx]? =some (.cells #[.int .i64 x.id,.string x.name,.string x.zone,.int .i64 x.wall,.int .i64 x.gap,.int .i64 x.fold] 99 (0,0))/\a'={ tmps:=#[.slice none 0 0,.func (.func 271) #[] #[.pointer (some ⟨Bm,0,none⟩)],.pointer (some ⟨w.heap.size,0,none⟩),undef,.slice none 0 0,.pointer (some ⟨Bx,0,none⟩),.func (.func 271) #[] #[.pointer (some ⟨Bm,0,none⟩)],x.v,undef,undef,undef,undef,undef],defers:=[] })
  (fun x a' _ X Y row hs hg hr=>by
   obtain⟨Bx,k1,k2⟩:=hs
   refine⟨Bx,(hg.block Bx (Array.getElem?_eq_some_iff.1 k1).1 (fun e=>?_)).trans k1,k2⟩
   obtain⟨_,oo,ho,hc⟩:=hr Bx e.symm
   rw[k1]at ho
   cases ho
   cases hc)
  ?assign ?body ?done ?stop
 case assign=>
  rintro q pre ⟨x0,x1,x2,x3,x4,x5⟩ W K ⟨⟨v,hv,hrow,_⟩,hB⟩ hK
  simp only[EventD.v]at *
  gi_wp2
  exact hK _ _ ((KeepsOthers.alloc _ _).from _) (KeepsOthers.alloc _ _).walks ⟨⟨v,hv.alloc _,hrow.alloc _,trivial⟩,hB.alloc hB.size _⟩ ⟨W.heap.size,World.alloc_heap_new W _,rfl⟩
 case body=>
  rintro q pre ⟨x0,x1,x2,x3,x4,x5⟩ a' W hq ⟨r,hr⟩ ⟨⟨v,hv,hrow,_⟩,hB⟩ ⟨Bx,hBx,rfl⟩ hlt
  have hc:=hv.cell
  have hsW:=hB.size
  have e0:W.cell? ⟨Bx,0,none⟩=some (.int .i64 x0):=by simp[World.cell?,hBx]
  have e1:W.cell? ⟨Bx,1,none⟩=some (.string x1):=by simp[World.cell?,hBx]
  have e2:W.cell? ⟨Bx,2,none⟩=some (.string x2):=by simp[World.cell?,hBx]
  have e3:W.cell? ⟨Bx,3,none⟩=some (.int .i64 x3):=by simp[World.cell?,hBx]
  have e4:W.cell? ⟨Bx,4,none⟩=some (.int .i64 x4):=by simp[World.cell?,hBx]
  have e5:W.cell? ⟨Bx,5,none⟩=some (.int .i64 x5):=by simp[World.cell?,hBx]
  simp only[EventD.v]at *
  clear hBx hq hr
  gi_wp2_with (gi_at_builtin;refine wpListIn_append_own _ rfl _ _ 232 rfl w.heap.size 99 i0 (.agg #[.int .i64 0,.string ⟨#[]⟩,.string ⟨#[]⟩,.int .i64 0,.int .i64 0,.int .i64 0]) 6 64 Tryz.underlying232 hi hz0 hz1 hz2 rfl (by decide) _ _ _ rfl (hrow.alloc _) ⟨W.heap.size,0,none⟩ 1 1 [.int .i64 x0,.string x1,.string x2,.int .i64 x3,.int .i64 x4,.int .i64 x5] rfl rfl (by have h:=ja3 W [.int .i64 x0,.string x1,.string x2,.int .i64 x3,.int .i64 x4,.int .i64 x5] 99;simpa using h) (by intro u hu;simp at hu;rcases hu with rfl|rfl|rfl|rfl|rfl|rfl<;>rfl) (by unfold maxLen;omega) (by omega) (by simp;omega) ?_;intro v' w1 hown' hgrow _;obtain⟨g',cap',rfl⟩:=ownsRow_succ hown';obtain⟨hv1,hv2,hr2,hk2,hb2⟩:=hv.appended (by decide) hrow hB.size (Nat.le_refl _) hown' hgrow;have hc1:=hv1.cell;have hf1:=hv1.frozen)
  exact⟨hk2.from _,hk2.walks,⟨_,hv2,by simpa [EventD.cs]using hr2,trivial⟩,hB.trans hb2⟩
 case done=>
  rintro D ys W hD hp ⟨⟨v,hv,hrow,_⟩,hB⟩ hK
  have hc:=hv.cell
  gi_wp2
  refine⟨by simp,.inl ⟨_,_,rfl,run_takeDeferred hK,?_⟩⟩
  exact⟨_,results_tmp rfl _ _ _,v,ys,rfl,hp,ownsRow_putObj hrow (.deferred none) hK rfl,hB.trans (belowK_b (w:=w) (Nat.le_refl _) W D _ _ (by simp at hD;omega) hK rfl rfl)⟩
 case stop=>
  rintro D c pre W _ _ h _
  exact h.elim
theorem joh(Bm b nn:Nat)(f:Int->Option EventD)(L:List EventD)(w:World)(hBm:Bm<w.heap.size)(hm:w.cell? ⟨Bm,0,none⟩=some (.map (some b)))(hM:Zg w b nn f)(hT:Jc f L)(hL:L.Pairwise fun x y=>x.id<y.id)(hl:L.length<=1048576):
  Calls Tryz.prog 269 #[.func (.func 271) #[] #[.pointer (some ⟨Bm,0,none⟩)]] w fun e w'=>∃v xs,e=.returned v/\xs.Perm L/\Zq w' w.heap.size v xs/\Below w.heap.size w w':=by
 have hA:Calls Tryz.prog 293 #[.slice none 0 0,.func (.func 271) #[] #[.pointer (some ⟨Bm,0,none⟩)]] w _:=(callsIn_wide (n:=3)).1 (jo9 Fence.wide 3 trivial trivial rfl (by omega) Bm b nn f L w hBm hm hM hT hL hl)
 go_enter Tryz.func269,Tryz.ntmps269
 go_wp2_with fail
 refine hA.mono ?_
 rintro e w1 ⟨v,xs,rfl,hp,hO,hb⟩
 obtain⟨p,m,c,rfl⟩:=jaq hO
 go_wp2
 go_ret
 exact⟨_,xs,rfl,hp,hO,hb⟩
theorem joi(b nn:Nat)(f:Int->Option EventD)(L:List EventD)(w:World)(hM:Zg w b nn f)(hT:Jc f L)(hL:L.Pairwise fun x y=>x.id<y.id)(hl:L.length<=1048576):
  Calls Tryz.prog 190 #[.map (some b)] w fun e w'=>∃v,e=.returned v/\Zq w' w.heap.size v L/\Below w.heap.size w w':=by
 have hV:=jp5 b w
 have hB0:Below w.heap.size w (w.alloc (.cells #[.map (some b)] 75)):=qal w _
 have hC:=joh w.heap.size b nn f L (w.alloc (.cells #[.map (some b)] 75)) (by simp) (by simp[go_sem]) (hM.below hB0) hT hL hl
 have hSF:Calls Tryz.prog 237 #[.func (.func 271) #[] #[.pointer (some ⟨w.heap.size,0,none⟩)],.func (.func 239) #[] #[]] (w.alloc (.cells #[.map (some b)] 75)) fun e w'=>∃v,e=.returned v/\Zq w' w.heap.size v L/\Below w.heap.size w w':=by
  go_enter Tryz.func237,Tryz.ntmps237
  go_wp2_with fail
  refine hC.mono ?_
  rintro e w1 ⟨v,xs,rfl,hp,hO,hb⟩
  have hS:=sortE xs _ v w1 hO (j0v hL hp) (by rw[hp.length_eq];exact hl)
  obtain⟨p,m,c,rfl⟩:=jaq hO
  have hB1:=qtr hB0 hb
  go_wp2_with fail
  refine hS.mono ?_
  rintro e w2 ⟨rfl,Q,hQ,hs,hO2,hg⟩
  have hB2:Below w.heap.size w w2:=hB1.grown hg hB1.size (fun k hk=>by have:=(World.ownsRow.lt hO k hk).1;simp at this;omega)
  obtain rfl:=j5h hL hp hQ hs
  go_wp2
  go_ret
  exact⟨_,rfl,jb8 hO2 (by simp),hB2⟩
 go_enter Tryz.func190,Tryz.ntmps190
 go_wp2_with fail
 refine hV.mono ?_
 rintro e w1 ⟨rfl,rfl⟩
 go_wp2_with fail
 refine hSF.mono ?_
 rintro e w2 ⟨v,rfl,hO,hb⟩
 obtain⟨p,m,c,rfl⟩:=jaq hO
 go_wp2
 go_ret
 exact⟨_,rfl,hO,hb⟩
end
end Go.Proofs.YtofdpfpdocpbpaaGreatDoor
