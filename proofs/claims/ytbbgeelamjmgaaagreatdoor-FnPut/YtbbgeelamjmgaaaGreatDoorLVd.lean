import Derived.Test.YtbbgeelamjmgaaaGreatDoorSDd
import Derived.Sort.MapsRangeIn
import Derived.Test.YtbbgeelamjmgaaaGreatDoorSEd
import Derived.Test.YtbbgeelamjmgaaaGreatDoorShelfY
set_option maxRecDepth 100000
set_option maxHeartbeats 0
set_option linter.unusedSimpArgs false
namespace Go.Proofs.YtbbgeelamjmgaaaGreatDoor
variable{L P:List Ze}
section
open Go.RowKit Go.Shelf Go.ChangeMaps Go.MapKept
attribute [local go_sem] Oper.semAt_some
structure vce(f:Int->Option Ze)(left:Lit->Bool)(P:List Ze):Prop where
 nd:P.Nodup
 mem:∀x,x∈P↔f x.id=some x/\left (.int .i64 x.id)=false
theorem vce.step{f:Int->Option Ze}{left:Lit->Bool}{c:Ze}(h:vce f left P)(hc:f c.id=some c)(hl:left (.int .i64 c.id)=true):vce f (λz=>left z&& !Lit.sameKey z (.int .i64 c.id)) (P++[c]):=by
 refine⟨List.nodup_append.mpr ⟨h.nd,M,λx hx y hy e=>?_⟩,λx=>?_⟩
 .simp only[List.mem_singleton]at hy
  subst hy e;rw[((h.mem x).mp hx).2]at hl;cases hl
 .rw[List.mem_append,List.mem_singleton,h.mem]
  constructor
  .rintro(⟨h1,h2⟩|rfl)
   .exact⟨h1,by simp only[h2,Bool.false_and]⟩
   .have hk:WideAt.IsKeyLit (.int .i64 x.id):=trivial
    exact⟨hc,by rw[WideAt.sameKey_self hk];simp⟩
  .rintro⟨h1,h2⟩
   rcases jit h2 with h|h
   .exact .inl ⟨h1,h⟩
   .rw[h,hc]at h1
    exact .inr (Z9 h1).symm
theorem vce.done{f:Int->Option Ze}{left:Lit->Bool}(h:vce f left P)(hl:∀kl,left kl=false)(hT:vbb f L)(hL:L.Pairwise λx y=>x.id<y.id):P.Perm L:=
 (List.perm_ext_iff_of_nodup h.nd (hL.imp λ{x y} gI e=>by subst e;omega)).mpr λx=>by rw[h.mem,hT.mem,hl];simp
theorem vji(F:Fence)(n:Nat)(h8:F.fn 102)(lI:F.round=none)(hn:1<=n)(l Bm b nn:Nat)(f:Int->Option Ze)(L:List Ze)(vJJ Jx:List Ze->World->Prop)
  (hY:∀bK x W,vJJ bK W->bK.length<L.length->YieldAt F (n-1) Tryz.prog l #[x.v] W λe W'=>
   (e=V (.bool true)/\vJJ (bK++[x]) W'/\KeepsWalks W W')\/(e=V (.bool false)/\Jx (bK++[x]) W'))
  (W:World) (hJ:AbidesFrom W.heap.size vJJ) (hm:W.cell? (O Bm 0)=some (.map (some b))) (hM:Zm W b nn f) (hT:vbb f L) (hL:L.Pairwise λx y=>x.id<y.id) (h0:vJJ [] W):
  CallsIn F n Tryz.prog 102 #[.func (.yield l) #[] #[],.pointer (some (O Bm 0))] W λe W'=>(∃v,e=V v)/\
   ((∃xs,xs.Perm L/\vJJ xs W')\/(∃bK,True/\Jx bK W')):=by
 have⟨D,ai,hD⟩:=hM.own;have hsz:Maps.size D=L.length:=jia ai hD hT hL;have HT:=hid hT;have HD:=hid hD;have HU:=hid hL;clear hT hD hL hM;refine callsIn_of_wp Tryz.func102 rfl h8 ?_ lI;simp only[Tryz.ntmps102,List.size_toArray,List.length_cons,List.length_nil,Nat.reduceAdd,Nat.reduceSub,Array.replicate_succ,Array.replicate_zero,List.push_toArray,List.append_toArray,List.nil_append,List.cons_append]
 gi_wp2_with (first
  |(gi_at_range;refine wpListIn_range_own _ rfl _ 65 rfl 2 33 (Maps.int_keyed vaw) vbV jcy b nn D rfl ai ?_;intro w0 kK kC aG)
  |gi_in)
 go_frame
 gi_loopw [4] (λ_ wr=>∃(left:Lit->Bool) (jw:Nat) (ps:List Ze),wr.ranges Tryz.prog 2 jcy b W.heap.size nn D left jw/\ps.length+jw<=L.length/\Hid (vce f left ps)/\vJJ ps wr)
  (λ_ wr=>wr.rangeLeft b W.heap.size)
 case atStart=>
  exact⟨_,_,[],kK,by rw[hsz];simp,⟨List.nodup_nil,λx=>⟨λh=>by simp at h,λ⟨h1,h2⟩=>by rw[jk0 HD.out h1]at h2;cases h2⟩⟩,hJ [] W w0 none h0 kC (λr e=>by cases e)⟩
 case round=>
  have⟨left,jw,ps,oH,rB,HG,Fi⟩:=hrel
  gi_wp2_with (first
   |(gi_at_next;refine wpListIn_next_ranges _ rfl _ rfl 2 (Maps.int_keyed vaw) jcy (Value.int .i64) (λc:Ze=>Value.agg #[.int .i64 c.id,.string c.name,.string c.YZ,.int .i64 c.YV,.int .i64 c.Zz,.int .i64 c.Zu]) (λkey kl bS=>by(obtain⟨x,rfl,_⟩:=Maps.keyOf_int_inv vaw bS;exact⟨x,rfl⟩)) (λv y hv=>by(obtain⟨c,rfl,_⟩:=jde hv;exact⟨c,rfl⟩)) b W.heap.size nn D left jw rfl oH ?_ ?_)
   |gi_in)
  .intro _ rv
   gi_wp2
   go_end0;exact⟨⟨_,rfl⟩,.inl ⟨_,HG.out.done rv HT.out HU.out,Fi⟩⟩
  .intro x c kl y ys w2 Ck bS i8 ej bE hrg2 hlt bR dR fi
   have HF:Hid (f x=some c/\c.id=x/\kl=.int .i64 x):=by
    obtain⟨x',ex,rfl,_⟩:=Maps.keyOf_int_inv vaw bS;cases ex
    have⟨c',ec,ez⟩:=jde ej;simp only[Prod.mk.injEq]at ez;obtain⟨rfl,_⟩:=ez;have:c'=c:=by cases c;cases c';simp only[Ze.v,Value.agg.injEq]at ec;simp_all
    subst this;have h1:=jv8 HD.out bE;exact⟨h1,HT.out.id _ _ h1,rfl⟩
   have MA:vJJ ps w2:=hJ _ wr w2 (some W.heap.size) Fi bR (λr e=>by cases e;exact⟨ZD _,oH.iter_walk⟩);have kM:=hrg2.alloc (G #[J c.id,I c.name,I c.YZ,J c.YV,J c.Zz,J c.Zu] 33);have qR:=hY ps c (w2.alloc (G #[J c.id,I c.name,I c.YZ,J c.YV,J c.Zz,J c.Zu] 33)) (jph hJ MA _) Q;obtain⟨e0,e1,e2,e3,e4,e5⟩:(λz:World=>z.cell? (O w2.heap.size 0)=some (J c.id)/\z.cell? (O w2.heap.size 1)=some (I c.name)/\z.cell? (O w2.heap.size 2)=some (I c.YZ)/\z.cell? (O w2.heap.size 3)=some (J c.YV)/\z.cell? (O w2.heap.size 4)=some (J c.Zz)/\z.cell? (O w2.heap.size 5)=some (J c.Zu)) (w2.alloc (G #[J c.id,I c.name,I c.YZ,J c.YV,J c.Zz,J c.Zu] 33)):=RQ;simp only[Ze.v]at qR;have⟨fn,tmps,assign,body,hy,hR⟩:=qR;have jK:Hid (vce f (λz=>left z&& !Lit.sameKey z kl) (ps++[c])):=by
    have h:=HF.out;rw[h.2.2, <- h.2.1];exact HG.out.step (by rw[h.2.1];exact h.1) (by rw[h.2.1, <- h.2.2];exact i8)
   clear dR ej bE bS hY
   gi_wp2
   refine hR.mono ?_;rintro e W3 (⟨rfl,Bm,oC⟩|⟨rfl,pL⟩)
   .gi_wp2
    have lS:=kM.of_walks oC;go_roundw
    .exact⟨_,Ck,ps++[c],lS,RO,jK,Bm⟩
    .rw[lS.left_eq,oH.left_eq];exact hlt
   .gi_wp2
    refine ZM (results_none rfl _ _ _) rfl ?_;exact⟨⟨_,rfl⟩,.inr ⟨_,trivial,pL⟩⟩
theorem values_stops(F:Fence)(n:Nat)(h8:F.fn 102)(lI:F.round=none)(hn:1<=n)(Bm b nn:Nat)(f:Int->Option Ze)(L:List Ze)(w:World)(gu:Bm<w.heap.size)(hm:w.cell? (O Bm 0)=some (.map (some b)))(hM:Zm w b nn f)(hT:vbb f L)(hL:L.Pairwise λx y=>x.id<y.id):
  SeqStopsK F n Tryz.prog 102 #[.pointer (some (O Bm 0))] (λx:Ze=>#[x.v]) KeepsWalks (λxs=>xs.Perm L) (λ_=>True) L.length w:=λl vJJ Jx W hW hJ _ hY h0=>
 vji F n h8 lI hn l Bm b nn f L vJJ Jx hY W hJ ((hW.cell (p:=(O Bm 0)) gu).trans hm) (hM.below hW) hT hL h0
theorem vhH(b:Nat)(w:World):
  C 66 #[.map (some b)] w λe w'=>e=V (.func (.func 102) #[] #[.pointer (some (O w.heap.size 0))])/\w'=w.alloc (G #[.map (some b)] 65):=by
 unfold C;go_in;go_wp2;go_ret;exact⟨rfl,rfl⟩
end
section
open Go.RowKit Go.Sort Go.Lib
theorem vg0(x y:Ze)(w:World):C 67 #[x.v,y.v] w λe w'=>e=V (J (Oi x.id y.id))/\∃n os,w'=Go.Sort.grow (w.drewN n) os:=by
 obtain⟨x0,x1,x2,x3,x4,x5⟩:=x;obtain⟨y0,y1,y2,y3,y4,y5⟩:=y;simp only[Ze.v];have h1:=λx y w=>jq5 x y w
 unfold C;go_in;go_wp2_with fail;refine(h1 _ _ _).mono ?_;rintro e w3 ⟨rfl,rfl⟩;go_wp2;go_ret;exact⟨rfl,0,#[_,_],by rw[Go.Sort.alloc_eq_grow,Go.Sort.alloc_eq_grow,Go.Sort.grow_grow];rfl⟩
abbrev InE(P:List Ze):={ x:Ze // x∈P }
def cfE{P:List Ze}(x y:InE P):Int:=Oi x.1.id y.1.id
theorem ltE(x y:InE P):ltOf cfE x y=decide (x.1.id<y.1.id):=by
 unfold ltOf cfE Oi;by_cases h:x.1.id<y.1.id
 .simp[h]
 .by_cases h2:y.1.id<x.1.id<;>simp[h,h2]
theorem vjc(P:List Ze):SWO (ltOf (cfE (P:=P))) where
 irrefl x:=by rw[ltE];simp
 trans x y z h1 h2:=by rw[ltE]at *;simp only[decide_eq_true_eq]at *;omega
 ntrans x y z h1 h2:=by rw[ltE]at *;simp only[decide_eq_false_iff_not]at *;omega
theorem viT(P:List Ze)(base:Nat)(v:Value)(w:World)(hO:Jb w base v P)(hd:∀x∈P,∀y∈P,x.id=y.id->x=y)(hl:P.length<=1048576):
  C 101 #[v,.func (.func 67) #[] #[]] w λe w'=>e=V (.tuple #[])/\∃vQQ:List Ze,vQQ.Perm P/\(vQQ.Pairwise λx y=>x.id<=y.id)/\Jb w' base v vQQ/\w.grownBy w' v.ownBlock:=by
 rcases hO.2 with⟨rfl,h0⟩|⟨g,cap,cur,rfl,hb,hh,_⟩
 .have hP:P=[]:=List.length_eq_zero_iff.mp h0
  subst hP;refine(Tryz.sortFuncY_none none 0 _ w).mono ?_;rintro e w' ⟨rfl,rfl⟩;exact⟨rfl,[],.refl _,.nil,hO,⟨rfl,rfl,rfl,ZD _,λ_ _ _=>rfl⟩⟩
 .cases hP:P with
  |nil=>
   subst hP;refine(Tryz.sortFuncY_none (some (O g 0)) cap _ w).mono ?_;rintro e w' ⟨rfl,rfl⟩;exact⟨rfl,[],.refl _,.nil,hO,⟨rfl,rfl,rfl,ZD _,λ_ _ _=>rfl⟩⟩
  |cons z zs=>
  rw[<- hP]
  haveI:Inhabited (InE P):=⟨⟨z,by rw[hP];exact List.mem_cons_self ..⟩⟩
  have hk:∀x:InE P,x.1.cs.length=6:=λ_=>rfl
  have hm:P.attach.map (λx:InE P=>x.1.cs)=P.map Ze.cs:=by rw[List.attach_map_val]
  have hA:w.ownsRow base 33 6 (so g P.length cap) P.attach.length (P.attach.map λx:InE P=>x.1.cs).flatten:=by rw[hm,List.length_attach];exact hO
  have⟨hH,hlt,_⟩:=j3p hk RN hA
  have hC:=Tryz.sortFuncY_total 6 Tryz.isAgg33 Tryz.sizeOf33 (λx:InE P=>x.1.cs) hk (λx v hv=>by simp[Ze.cs]at hv;rcases hv with rfl|rfl|rfl|rfl|rfl|rfl<;>rfl) cfE (vjc P) 67 #[] g 0 cap P.attach.toArray w (λ_ _=>RG) (λ_ _ _ _ x y=>vg0 x.1 y.1 _) hH hlt RO (λx y h1 h2=>by
   rw[ltE]at h1 h2;simp only[decide_eq_false_iff_not]at h1 h2
   exact Subtype.ext (hd _ x.2 _ y.2 Q))
  refine Calls.mono (by simpa using hC) ?_;rintro e w' ⟨rfl,q,os,rfl⟩;generalize hQ:(P.attach.toArray.toList.mergeSort λx y=> !(ltOf cfE) y x)=vQQ;have hp:vQQ.Perm P.attach:=by rw[<- hQ];exact List.mergeSort_perm _ _
  have hs:vQQ.Pairwise λx y=>x.1.id<=y.1.id:=by
   rw[<- hQ];refine(List.pairwise_mergeSort (λa b c h1 h2=>?_) (λa b=>?_) _).imp λ{x y} h=>?_
   .rw[ltE]at *;simp at *;omega
   .rw[ltE,ltE];simp;omega
   .rw[ltE]at h;simpa using h
  have h:=vfR hk RN (q:=q) (os:=os) (vQQ:=vQQ) hA hp.length_eq;refine⟨rfl,vQQ.map Subtype.val,?_,List.pairwise_map.mpr hs,?_,h.2⟩
  .have:=hp.map Subtype.val
   rwa [List.attach_map_subtype_val]at this
  .show World.ownsRow _ _ _ _ _ _ _
   rw[BX,List.map_map];exact h.1
theorem vh3{vQQ:List Ze}(hL:L.Pairwise λx y=>x.id<y.id)(hP:P.Perm L)(hQ:vQQ.Perm P)(hs:vQQ.Pairwise λx y=>x.id<=y.id):vQQ=L:=by
 have hq:=hQ.trans hP;have hn:vQQ.Pairwise λx y=>x.id≠y.id:=hq.symm.pairwise (hL.imp λ{x y} h=>Q) λ{x y} h=>Ne.symm h
 exact veD ((List.pairwise_and_iff.mpr ⟨hs,hn⟩).imp λ{x y} h=>by have:=h.1;have:=h.2;omega) hL λe=>hq.mem_iff
theorem vh2(hL:L.Pairwise λx y=>x.id<y.id)(hP:P.Perm L):∀x∈P,∀y∈P,x.id=y.id->x=y:=λx hx y hy e=>by
 have⟨i,hi⟩:=lgo (hP.mem_iff.mp hx);have⟨j,hj⟩:=lgo (hP.mem_iff.mp hy);have⟨K6,FY⟩:=pO hi;have⟨C9,Ca⟩:=pO hj;have hp:=List.pairwise_iff_getElem.mp hL;rcases Nat.lt_trichotomy i j with h|h|h
 .have:=hp i j K6 C9 h;rw[FY,Ca]at this;omega
 .subst h;rw[<- FY, <- Ca]
 .have:=hp j i C9 K6 h;rw[FY,Ca]at this;omega
end
section
open Go.RowKit Go.Shelf
attribute [local go_sem] Oper.semAt_some
theorem appendSeq_in(F:Fence)(n:Nat)(Mw:F.fn 140)(h8:F.fn 102)(lI:F.round=none)(hn:3<=n)(Bm b nn:Nat)(f:Int->Option Ze)(L:List Ze)(w:World)(gu:Bm<w.heap.size)(hm:w.cell? (O Bm 0)=some (.map (some b)))(hM:Zm w b nn f)(hT:vbb f L)(hL:L.Pairwise λx y=>x.id<y.id)(hl:L.length<=1048576):
  CallsIn F n Tryz.prog 140 #[nS,.func (.func 102) #[] #[.pointer (some (O Bm 0))]] w λe w'=>∃v xs,e=V v/\xs.Perm L/\Jb w' w.heap.size v xs/\Bw w w':=by
 have h1:1<=n:=Q;have⟨i0,hi,aG,aH,aF⟩:=jtp;refine callsIn_of_wp_marks Tryz.func140 rfl Mw ?_ lI;simp only[Tryz.ntmps140,List.size_toArray,List.length_cons,List.length_nil,Nat.reduceAdd,Nat.reduceSub,Array.replicate_succ,Array.replicate_zero,List.push_toArray,List.append_toArray,List.nil_append,List.cons_append]
 gi_wp2
 have bO:=Boxed.new w 40 nS;have ag:Bw w (w.alloc (G #[nS] 40)):=ZA w _;have dP:(w.alloc (G #[nS] 40)).heap.size=w.heap.size+1:=M;refine wpIn_rangeFunc_ownH lI h1 (gf:=102) (lb:=#[.pointer (some (O Bm 0))]) rfl h8 (enters_of Tryz.func102 RG rfl)
  (values_stops F (n-1) h8 lI Q Bm b nn f L _ RO (YR ag hm) (hM.below ag) hT hL) walksK_t walksK_b (ZU _ _) (λ_=>rfl)
  (λbK W=>(∃v,Boxed W w.heap.size 40 v/\W.ownsRow w.heap.size 33 6 v bK.length (bK.map Ze.cs).flatten/\True)/\Bw w W)
  (λ_ _ _=>False)
  (OwnFrom.and (Own.from (holdsRow_own w.heap.size w.heap.size 40 33 6 (λbK=>bK.length) (λbK:List Ze=>(bK.map Ze.cs).flatten) (λ_ _=>True)) _) (ownFrom_below (ZD _) M))
  (λ_ _ _ _ _ hs _ _=>hs)
  ⟨⟨_,bO,World.ownsRow_nil _ _ _ _,trivial⟩,ag⟩
  (λx a' W=>∃Bx,W.heap[Bx]? =some (G #[J x.id,I x.name,I x.YZ,J x.YV,J x.Zz,J x.Zu] 33 (0,0))/\a'={ tmps:=#[nS,.func (.func 102) #[] #[.pointer (some (O Bm 0))],.pointer (some (O w.heap.size 0)),undef,nS,.pointer (some (O Bx 0)),.func (.func 102) #[] #[.pointer (some (O Bm 0))],x.v,undef,undef,undef,undef,undef],defers:=[] })
  (λx a' _ X Y row hs hg hr=>by
   have⟨Bx,k1,k2⟩:=hs;refine⟨Bx,(hg.block Bx (Array.getElem?_eq_some_iff.1 k1).1 (λe=>?_)).trans k1,k2⟩;have⟨_,oo,ho,hc⟩:=hr Bx e.symm;rw[k1]at ho;cases ho
   cases hc)
  ?assign ?body ?done ?stop
 case assign=>
  rintro q bK ⟨x0,x1,x2,x3,x4,x5⟩ W K ⟨⟨v,hv,ap,_⟩,hB⟩ hK;simp only[Ze.v]at *
  gi_wp2
  exact hK _ _ ((KeepsOthers.alloc _ _).from _) (KeepsOthers.alloc _ _).walks ⟨⟨v,hv.alloc _,ap.alloc _,trivial⟩,hB.alloc hB.size _⟩ ⟨W.heap.size,World.alloc_heap_new W _,rfl⟩
 case body=>
  rintro q bK ⟨x0,x1,x2,x3,x4,x5⟩ a' W hq ⟨r,hr⟩ ⟨⟨v,hv,ap,_⟩,hB⟩ ⟨Bx,cR,rfl⟩ hlt;have hc:=hv.cell;have dI:=hB.size;have e0:W.cell? (O Bx 0)=some (J x0):=by simp[World.cell?,cR]
  have e1:W.cell? (O Bx 1)=some (I x1):=by simp[World.cell?,cR]
  have e2:W.cell? (O Bx 2)=some (I x2):=by simp[World.cell?,cR]
  have e3:W.cell? (O Bx 3)=some (J x3):=by simp[World.cell?,cR]
  have e4:W.cell? (O Bx 4)=some (J x4):=by simp[World.cell?,cR]
  have e5:W.cell? (O Bx 5)=some (J x5):=by simp[World.cell?,cR]
  simp only[Ze.v]at *;clear cR hq hr
  gi_wp2_with (gi_at_builtin;refine wpListIn_append_own _ rfl _ _ 40 rfl w.heap.size 33 i0 (.agg #[J 0,Rn,Rn,J 0,J 0,J 0]) 6 64 Tryz.underlying40 hi aG aH aF rfl RN _ _ _ rfl (ap.alloc _) (O W.heap.size 0) 1 1 [J x0,I x1,I x2,J x3,J x4,J x5] rfl rfl (by have h:=Ka W [J x0,I x1,I x2,J x3,J x4,J x5] 33;simpa using h) (by intro u hu;simp at hu;rcases hu with rfl|rfl|rfl|rfl|rfl|rfl<;>rfl) (by unfold maxLen;omega) Q RO ?_;intro v' w1 ao af _;obtain⟨g',fK,rfl⟩:=ownsRow_succ ao;have⟨ej,eQ,dC,fy,ac⟩:=hv.appended RN ap hB.size (ZD _) ao af;have aX:=ej.cell;have dg:=ej.frozen)
  exact⟨fy.from _,fy.walks,⟨_,eQ,by simpa [Ze.cs]using dC,trivial⟩,hB.trans ac⟩
 case done=>
  rintro D ys W hD hp ⟨⟨v,hv,ap,_⟩,hB⟩ hK;have hc:=hv.cell
  gi_wp2
  refine⟨M,.inl ⟨_,_,rfl,run_takeDeferred hK,?_⟩⟩;exact⟨_,results_tmp rfl _ _ _,v,ys,rfl,hp,ownsRow_putObj ap (.deferred none) hK rfl,hB.trans (belowK_b (w:=w) (ZD _) W D _ _ (by simp at hD;omega) hK rfl rfl)⟩
 case stop=>
  rintro D c bK W _ _ h _;exact h.elim
theorem vhD(Bm b nn:Nat)(f:Int->Option Ze)(L:List Ze)(w:World)(gu:Bm<w.heap.size)(hm:w.cell? (O Bm 0)=some (.map (some b)))(hM:Zm w b nn f)(hT:vbb f L)(hL:L.Pairwise λx y=>x.id<y.id)(hl:L.length<=1048576):
  C 100 #[.func (.func 102) #[] #[.pointer (some (O Bm 0))]] w λe w'=>∃v xs,e=V v/\xs.Perm L/\Jb w' w.heap.size v xs/\Bw w w':=by
 have hA:C 140 #[nS,.func (.func 102) #[] #[.pointer (some (O Bm 0))]] w _:=(callsIn_wide (n:=3)).1 (appendSeq_in Fence.wide 3 trivial trivial rfl Q Bm b nn f L w gu hm hM hT hL hl);unfold C;go_in;go_wp2_with fail;refine hA.mono ?_;rintro e w1 ⟨v,xs,rfl,hp,hO,hb⟩;obtain⟨p,m,c,rfl⟩:=Dt hO;go_wp2;go_ret;exact⟨_,xs,rfl,hp,hO,hb⟩
theorem vfq(b nn:Nat)(f:Int->Option Ze)(L:List Ze)(w:World)(hM:Zm w b nn f)(hT:vbb f L)(hL:L.Pairwise λx y=>x.id<y.id)(hl:L.length<=1048576):
  C 29 #[.map (some b)] w λe w'=>∃v,e=V v/\Jb w' w.heap.size v L/\Bw w w':=by
 have hV:=vhH b w;have ag:Bw w (w.alloc (G #[.map (some b)] 65)):=ZA w _;have hC:=vhD w.heap.size b nn f L (w.alloc (G #[.map (some b)] 65)) M RQ (hM.below ag) hT hL hl;have ME:C 65 #[.func (.func 102) #[] #[.pointer (some (O w.heap.size 0))],.func (.func 67) #[] #[]] (w.alloc (G #[.map (some b)] 65)) λe w'=>∃v,e=V v/\Jb w' w.heap.size v L/\Bw w w':=by
  unfold C;go_in;go_wp2_with fail;refine hC.mono ?_;rintro e w1 ⟨v,xs,rfl,hp,hO,hb⟩;have hS:=viT xs _ v w1 hO (vh2 hL hp) (by rw[hp.length_eq];exact hl);obtain⟨p,m,c,rfl⟩:=Dt hO;have aj:=Zp ag hb;go_wp2_with fail;refine hS.mono ?_;rintro e w2 ⟨rfl,vQQ,hQ,hs,aW,hg⟩;have an:Bw w w2:=aj.grown hg aj.size (λk hk=>by have:=(World.ownsRow.lt hO k hk).1;simp at this;omega);obtain rfl:=vh3 hL hp hQ hs;go_wp2;go_ret;exact⟨_,rfl,Ez aW M,an⟩
 unfold C;go_in;go_wp2_with fail;refine hV.mono ?_;rintro e w1 ⟨rfl,rfl⟩;go_wp2_with fail;refine ME.mono ?_;rintro e w2 ⟨v,rfl,hO,hb⟩;obtain⟨p,m,c,rfl⟩:=Dt hO;go_wp2;go_ret;exact⟨_,rfl,hO,hb⟩
