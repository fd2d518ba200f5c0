import Derived.Test.YtbbgeelamjmgaaaGreatDoorMarkPd
import Derived.Test.YtbbgeelamjmgaaaGreatDoorHpRd
set_option maxRecDepth 20000
set_option maxHeartbeats 0
set_option linter.unusedSimpArgs false
open Go.RowKit
namespace Go.Proofs.YtbbgeelamjmgaaaGreatDoor
variable{s:ByteArray}{l:List ZQ}{x:ZQ}{w w':World}{b base:Nat}{v:Value}
section
open Go.RowKit Go.ChangeMaps Go.MapKept Go.WideMaps
theorem jhz{t:ByteArray}(h:s.toList=t.toList):s=t:=by
 rw[ByteArray.toList_eq,ByteArray.toList_eq]at h;cases s;cases t;congr;exact Array.toList_inj.mp h
def Je(w:World)(base:Nat)(v:Value)(l:List ZQ):Prop:=w.ownsRow base 116 9 v l.length (l.map ZQ.cs).flatten
def jbt(l:List ZQ)(nm:ByteArray):List ZQ:=l.filter λx=>x.name.toList==nm.toList
theorem jpx(l:List ZQ)(x:ZQ):jbt (l++[x]) x.name=jbt l x.name++[x]:=by
 unfold jbt;rw[List.filter_append];simp
theorem jgw{nm:ByteArray}(h:nm≠x.name):jbt (l++[x]) nm=jbt l nm:=by
 unfold jbt;rw[List.filter_append];have e:(x.name.toList==nm.toList)=false:=by
  rw[beq_eq_false_iff_ne];exact λe=>h (jhz e).symm
 simp[e]
structure vdV(w:World)(base:Nat)(l:List ZQ)(es:List MapEntry):Prop where
 each:∀x∈es,∃nm,x.key=I nm/\nm.size<=maxLen/\Je w base x.val (jbt l nm)
 none:∀nm,(∀x∈es,x.key≠ I nm)->jbt l nm=[]
 apart:∀(i j:Nat) (x y:MapEntry),i≠j->es[i]? =some x->es[j]? =some y->x.key≠y.key/\(x.val.ownBlock=.none\/x.val.ownBlock≠y.val.ownBlock)
def Jp(w:World)(base b:Nat)(l:List ZQ):Prop:=∃es aZ,w.heap[b]? =some (.map es aZ)/\b<base/\vdV w base l es.toList
theorem jv9(w:World):Jp (w.alloc (.map #[] 0)) (w.heap.size+1) w.heap.size []:=
 ⟨#[],0,(MapKept.heap_alloc w _).1,Nat.lt_succ_self _,⟨λx hx=>by simp at hx,λ_ _=>rfl,λi j x y _ hx=>by simp at hx⟩⟩
theorem Jp.lt(h:Jp w base b l):b<w.heap.size:=by
 have⟨es,aZ,hb,_⟩:=h;exact(Array.getElem?_eq_some_iff.1 hb).1
theorem Jp.kept(h:Jp w base b l)(hg:w.grownBy w' none):Jp w' base b l:=by
 have hlt:=h.lt;have⟨es,aZ,hb,iF,hE⟩:=h;refine⟨es,aZ,(hg.block b hlt M).trans hb,iF,⟨λx hx=>?_,hE.none,hE.apart⟩⟩;have⟨nm,h1,h2,h3⟩:=hE.each x hx;exact⟨nm,h1,h2,h3.kept hg (by cases x.val.ownBlock<;>simp)⟩
theorem Jp.below(h:Jp w base b l)(hb:Bw w w'):Jp w' base b l:=h.kept ⟨hb.os,hb.tape,hb.output,hb.size,λk hk _=>hb.block k hk⟩
theorem jru{w1 w2:World}{es rY:List MapEntry}{v':Value}{j:Nat}{e':MapEntry}(hE:vdV w base l es)(iF:b<base)
  (hg:w.grownBy w1 v.ownBlock) (bR:w1.grownBy w2 (some b)) (hn:x.name.size<=maxLen) (oJ:Je w1 base v' (jbt l x.name++[x])) (dh:v'.ownBlock=v.ownBlock\/∃g,v'.ownBlock=some g/\w.heap.size<=g)
  (h1:rY[j]? =some e') (hk:e'.key=I x.name) (eT:e'.val=v') (h2:∀i,i≠j->rY[i]? =es[i]?) (h3:∀i y,i≠j->es[i]? =some y->y.key≠ I x.name/\(y.val.ownBlock=none\/y.val.ownBlock≠v.ownBlock))
  (h4:∀y,es[j]? =some y->y.key=I x.name):vdV w2 base (l++[x]) rY:=by
 have nb:∀{u:Value} {z:List ZQ},Je w1 base u z->u.ownBlock=none\/u.ownBlock≠some b:=λ{u z} ho=>by
  cases hu:u.ownBlock with
  |none=>exact .inl rfl
  |some g=>
   refine .inr λe=>?_
   have:=(World.ownsRow.lt ho g hu).1;cases e
   omega
 have GJ:∀i y,i≠j->es[i]? =some y->y.val.ownBlock=none\/y.val.ownBlock≠v'.ownBlock:=λi y hi hy=>by
  rcases dh with e|⟨g,e,K7⟩
  .rw[e];exact(h3 i y hi hy).2
  .cases hyb:y.val.ownBlock with
   |none=>exact .inl rfl
   |some gy=>
    have⟨nm,_,_,ho⟩:=hE.each y (ui hy);have:=(World.ownsRow.lt ho gy hyb).2;refine .inr λe1=>?_
    rw[e]at e1;cases e1
    omega
 refine⟨λy hy=>?_,λnm Co=>?_,λi k p q oB hp hq=>?_⟩
 .have⟨i,hi⟩:=lgo hy
  by_cases eF:i=j
  .subst eF
   rw[h1]at hi;cases hi
   exact⟨x.name,hk,hn,by rw[jpx,eT];exact World.ownsRow.kept oJ bR (nb oJ)⟩
  .rw[h2 i eF]at hi
   have⟨nm,c1,c2,c3⟩:=hE.each y (ui hi);have⟨d1,d2⟩:=h3 i y eF hi;have az:nm≠x.name:=λe=>d1 (by rw[c1,e])
   have c4:Je w1 base y.val (jbt l nm):=World.ownsRow.kept c3 hg d2;exact⟨nm,c1,c2,by rw[jgw az];exact World.ownsRow.kept c4 bR (nb c4)⟩
 .have az:nm≠x.name:=λe=>Co e' (ui h1) (by rw[hk,e])
  rw[jgw az];refine hE.none nm λy hy=>?_
  have⟨i,hi⟩:=lgo hy;by_cases eF:i=j
  .subst eF
   rw[h4 y hi];exact λe=>az (by injection e with e;exact e.symm)
  .exact Co y (ui (by rw[h2 i eF];exact hi))
 .by_cases eF:i=j
  .subst eF
   rw[h1]at hp;cases hp
   rw[h2 k (Ne.symm oB)]at hq;have⟨d1,_⟩:=h3 k q (Ne.symm oB) hq;refine⟨by rw[hk];exact Ne.symm d1,?_⟩;rw[eT];rcases GJ k q (Ne.symm oB) hq with e|e
   .rw[e]
    cases v'.ownBlock<;>simp
   .exact .inr (Ne.symm e)
  .rw[h2 i eF]at hp
   by_cases G2:k=j
   .subst G2
    rw[h1]at hq;cases hq
    exact⟨by rw[hk];exact(h3 i p eF hp).1,by rw[eT];exact GJ i p eF hp⟩
   .rw[h2 k G2]at hq
    exact hE.apart i k p q oB hp hq
def vgA(P:Program)(T:TypeId)(w:World)(base b:Nat)(l:List ZQ)(nm:ByteArray)(v:Value):Prop:=
 ∀(w1:World) (v':Value) (x:ZQ),x.name=nm->w.grownBy w1 v.ownBlock->Je w1 base v' (jbt l nm++[x])->(v'.ownBlock=v.ownBlock\/∃g,v'.ownBlock=some g/\w.heap.size<=g)->
  ∃w2,(Instr.mapUpdate T (.map (some b)) (I nm) v').run P w1=.ok () w2/\Jp w2 base b (l++[x])/\w1.grownBy w2 (some b)
theorem jwa{P:Program}{T K E:TypeId}(h:Jp w base b l)(hT:P.underlying T=some (.map K E))(hK:P.underlying K=some .string)(hz:∀W,(zeroValue E).run P W=.ok nS W)(nm:ByteArray)(hn:nm.size<=maxLen):
  ∃v,(∀W:World,W.heap[b]? =w.heap[b]? ->(Instr.lookup T (.map (some b)) (I nm) false).run P W=.ok v W)/\Je w base v (jbt l nm)/\vgA P T w base b l nm v:=by
 have KK:=Maps.string_keyed hK;have hlt:=h.lt;have⟨es,aZ,hb,iF,hE⟩:=h;have bS:=keyOf_string_mk hK hn;have vc:∀e∈es.toList,∃l,keyOf P K e.key=some l:=λe he=>by
  have⟨s,h1,h2,_⟩:=hE.each e he;exact⟨_,by rw[h1];exact keyOf_string_mk hK h2⟩
 have nh:∀{w1:World} {rY:Array MapEntry} {c':Nat},w1.heap[b]? =some (.map es aZ)->w1.grownBy (setBlock w1 b (.map rY c')) (some b):=λ{w1 rY c'} hb1=>⟨rfl,rfl,rfl,by simp[setBlock],λi _ hi=>heap_setBlock_other hb1 _ (λe1=>hi (by rw[e1]))⟩
 rcases KK.find w bS es.toList vc with⟨f1,f2⟩|⟨j,e0,f1,f2,f3⟩
 .refine⟨nS,λW hW=>?_,by rw[hE.none nm f2];exact World.ownsRow_nil _ _ _ _,?_⟩
  .have iE:=hW.trans hb
   rcases KK.find W bS es.toList vc with⟨g1,_⟩|⟨j,e0,_,g2,g3⟩
   .simp[Instr.lookup,run_underlying hT,MapKept.run_getObj_map iE,KK.check W _ bS,g1,hz,Result.andThen]
   .exact absurd g3 (f2 e0 (ui g2))
  intro w1 v' x hx hg oJ dh;subst hx;have hb1:w1.heap[b]? =some (.map es aZ):=(hg.block b hlt (by simp[Value.ownBlock])).trans hb;rcases KK.find w1 bS es.toList vc with⟨g1,_⟩|⟨j,e0,_,g2,g3⟩
  .refine⟨setBlock w1 b (.map (es.push ⟨I x.name,v',aZ⟩) (aZ+1)),by simp[Instr.mapUpdate,run_underlying hT,MapKept.run_getObj_map hb1,KK.check w1 false bS,g1,MapKept.run_setObj_map _ hb1,Result.andThen,setBlock],⟨_,_,heap_setBlock_same hb1 _,iF,?_⟩,nh hb1⟩
   refine jru (j:=es.toList.length) (e':=⟨I x.name,v',aZ⟩) hE iF hg (nh hb1) hn oJ dh ?_ rfl rfl (λi hi=>?_) (λi y _ hy=>⟨f2 y (ui hy),?_⟩) (λy hy=>?_)
   .rw[Array.toList_push,List.getElem?_append_right (ZD _)];simp
   .rw[Array.toList_push]
    by_cases hlt:i<es.toList.length
    .rw[N9 hlt]
    .rw[List.getElem?_eq_none (by simp at *;omega),List.getElem?_eq_none Q]
   .cases y.val.ownBlock<;>simp[Value.ownBlock]
   .rw[List.getElem?_eq_none (ZD _)]at hy;cases hy
  .exact absurd g3 (f2 e0 (ui g2))
 .have⟨s0,k1,_,k3⟩:=hE.each e0 (ui f2)
  have dP:s0=nm:=by rw[k1]at f3;injection f3
  subst dP;have KQ:e0.val.ownBlock≠some b:=λe=>by
   have:=(World.ownsRow.lt k3 b e).1;omega
  refine⟨e0.val,λW hW=>?_,k3,?_⟩
  .have iE:=hW.trans hb
   rcases KK.find W bS es.toList vc with⟨_,g2⟩|⟨j1,e1,g1,g2,g3⟩
   .exact absurd f3 (g2 e0 (ui f2))
   .have hj:j1=j:=by
     by_cases az:j1=j
     .exact az
     .exact absurd (g3.trans f3.symm) (hE.apart j1 j e1 e0 az g2 f2).1
    subst hj;have he:e1=e0:=by rw[g2]at f2;cases f2;rfl
    subst he;simp[Instr.lookup,run_underlying hT,MapKept.run_getObj_map iE,KK.check W _ bS,g1,Result.andThen]
  intro w1 v' x hx hg oJ dh;subst hx;have hb1:w1.heap[b]? =some (.map es aZ):=(hg.block b hlt (λe=>KQ e.symm)).trans hb;rcases KK.find w1 bS es.toList vc with⟨_,g2⟩|⟨j1,e1,g1,g2,g3⟩
  .exact absurd f3 (g2 e0 (ui f2))
  .have hj:j1=j:=by
    by_cases az:j1=j
    .exact az
    .exact absurd (g3.trans f3.symm) (hE.apart j1 j e1 e0 az g2 f2).1
   subst hj;have he:e1=e0:=by rw[g2]at f2;cases f2;rfl
   subst he;have Kd:es[j1]? =some e1:=by simpa using g2
   have vg:(es.modify j1 (λe'=>{ e' with key:=I x.name,val:=v' })).toList=es.toList.set j1 { e1 with key:=I x.name,val:=v' }:=by rw[Array.toList_modify,modify_eq_set _ _ _ _ g2]
   refine⟨setBlock w1 b (.map (es.modify j1 (λe'=>{ e' with key:=I x.name,val:=v' })) aZ),by simp[Instr.mapUpdate,run_underlying hT,MapKept.run_getObj_map hb1,KK.check w1 false bS,g1,Kd,g3,KK.stays w1 bS,MapKept.run_setObj_map _ hb1,Result.andThen,setBlock],⟨_,_,heap_setBlock_same hb1 _,iF,?_⟩,nh hb1⟩;rw[vg];have eP:j1<es.toList.length:=(List.getElem?_eq_some_iff.1 g2).1;refine jru (j:=j1) (e':={ e1 with key:=I x.name,val:=v' }) hE iF hg (nh hb1) hn oJ dh ?_ rfl rfl (λi hi=>?_) (λi y hi hy=>⟨?_,?_⟩) (λy hy=>?_)
   .rw[List.getElem?_set_self eP]
   .rw[List.getElem?_set_ne (Ne.symm hi)]
   .have:=(hE.apart i j1 y e1 hi hy g2).1
    rw[g3]at this;exact this
   .exact(hE.apart i j1 y e1 hi hy g2).2
   .rw[g2]at hy;cases hy;exact g3
end
theorem j2g:(Tryz.prog.info? 116).map (λi=>(i.zero,i.size,i.bytes))=some (some (.agg #[Rn,J 0,J 0,J 0,Rn,J 0,Rn,J 0,Rn]),9,104):=RG
theorem jmx(w:World):(zeroValue 23).run Tryz.prog w=.ok nS w:=RG
theorem Je.add(h:w.ownsRow base 116 9 v (l.length+1) ((l.map ZQ.cs).flatten++x.cs)):Je w base v (l++[x]):=by
 unfold Je;rw[FB,MZ,List.flatten_append]
 simpa using h
theorem juw{k:Nat}(h:l[k]? =some x):l.take (k+1)=l.take k++[x]:=by rw[List.take_add_one,h];rfl
theorem jhd(l:List ZQ)(a:Option Addr)(ca:Nat)(w:World)(hA:Za w a 9 (l.map ZQ.cs))(hl:l.length<=40)(hn:∀x∈l,x.name.size<=maxLen):
  C 239 #[U a l.length ca] w λe W'=>e=V (.map (some w.heap.size))/\Jp W' (w.heap.size+1) w.heap.size l/\Bw w W':=by
 have⟨i0,hi,aG,aH,aF⟩:=info_parts j2g;have HN:=hid hn;clear hn;have dD:Hid (Jp (w.alloc (.map #[] 0)) (w.heap.size+1) w.heap.size (l.take 0)):=jv9 w;have ag:Bw w (w.alloc (.map #[] 0)):=ZA w _;have gi:=@run_makeMap Tryz.prog;unfold C;go_in;go_wp2;go_loopw [9] (λs9 wr=>∃k:Nat,s9=J k/\k<=l.length/\Hid (Jp wr (w.heap.size+1) w.heap.size (l.take k))/\Bw w wr) (λs9 _=>(l.length-intOf s9).toNat)
 .exact⟨0,rfl,Q,dD,ag⟩
 ·
  clear dD ag;obtain⟨k,rfl,hk,HM,aK⟩:=hrel;have dI:=aK.size;have qK:w.heap.size<wr.heap.size:=HM.out.lt;by_cases eY:k<l.length
  .have⟨x,hx⟩:=DV eY
   have KY:=HN.out x (ui hx);obtain⟨b9,o9,rfl,hc⟩:=(hA.below aK).at (i:=k) (r:=x.cs) (by rw[Z8,hx];rfl);have c0:wr.cell? (O b9 (o9+k*9))=some (I x.name):=hc 0 _ rfl;have c1:=hc 1 _ rfl;have c2:=hc 2 _ rfl;have c3:=hc 3 _ rfl;have c4:=hc 4 _ rfl;have c5:=hc 5 _ rfl;have c6:=hc 6 _ rfl;have c7:=hc 7 _ rfl;have c8:=hc 8 _ rfl;have HX:Hid (l.take (k+1)=l.take k++[x]):=juw hx;have Ce:(k:Int)<(l.length:Int):=Q;clear hc hx;have⟨L,hL⟩:=ZL (l.take k);have ma:L.length<=40:=by rw[<- hL,List.length_take];omega
   have OQ:(jbt L x.name).length<=40:=Nat.le_trans (List.length_filter_le _ _) ma;rw[hL]at HX HM;clear hL;have j9:=ZA wr (G #[I x.name,J x.lo,J x.hi,J x.pU,I x.on,J x.at_,I x.of,J x.YX,I x.ZR] 116);have oQ:=HM.out.below j9;obtain⟨e0,e1,e2,e3,e4,e5,e6,e7,e8⟩:(λz:World=>z.cell? (O wr.heap.size 0)=some (I x.name)/\z.cell? (O wr.heap.size 1)=some (J x.lo)/\z.cell? (O wr.heap.size 2)=some (J x.hi)/\z.cell? (O wr.heap.size 3)=some (J x.pU)/\z.cell? (O wr.heap.size 4)=some (I x.on)/\z.cell? (O wr.heap.size 5)=some (J x.at_)/\z.cell? (O wr.heap.size 6)=some (I x.of)/\z.cell? (O wr.heap.size 7)=some (J x.YX)/\z.cell? (O wr.heap.size 8)=some (I x.ZR)) (wr.alloc (G #[I x.name,J x.lo,J x.hi,J x.pU,I x.on,J x.at_,I x.of,J x.YX,I x.ZR] 116)):=RQ;have iE:=aK.alloc dI (G #[I x.name,J x.lo,J x.hi,J x.pU,I x.on,J x.at_,I x.of,J x.YX,I x.ZR] 116);have kO:(wr.alloc (G #[I x.name,J x.lo,J x.hi,J x.pU,I x.on,J x.at_,I x.of,J x.YX,I x.ZR] 116)).heap.size=wr.heap.size+1:=M;have⟨vl,i8,oc,ot⟩:=jwa (P:=Tryz.prog) (T:=274) HM.out Tryz.underlying274 Tryz.underlying9 jmx x.name KY;obtain⟨al,ml,cl,rfl⟩:=Dt oc;have hnb:some wr.heap.size≠(U al ml cl).ownBlock:=λe=>by have:=(World.ownsRow.lt oc _ e.symm).2;omega
   have⟨wB,gn⟩:=ZL ((wr.alloc (G #[I x.name,J x.lo,J x.hi,J x.pU,I x.on,J x.at_,I x.of,J x.YX,I x.ZR] 116)));have gB:∀ro,wr.grownBy wB ro:=λro=>by rw[<- gn];exact World.grownBy_alloc _ _ _
   have gD:∀ro,wr.grownBy wB.drew ro:=λro=>⟨(gB ro).os,(gB ro).tape,(gB ro).output,(gB ro).size,(gB ro).block⟩
   have gA:∀ro,wr.grownBy (wB.drew.alloc (G #[I x.name,J x.lo,J x.hi,J x.pU,I x.on,J x.at_,I x.of,J x.YX,I x.ZR] 116)) ro:=λro=>(gD ro).trans (World.grownBy_alloc _ _ _)
   have Fn:Je wB.drew (w.heap.size+1) (U al ml cl) (jbt L x.name):=World.ownsRow.kept oc (gD none) (by cases (U al ml cl).ownBlock<;>simp);have Lc:=i8 wB.drew ((gD none).block _ qK M);have Ld:=i8 (wB.drew.alloc (G #[I x.name,J x.lo,J x.hi,J x.pU,I x.on,J x.at_,I x.of,J x.YX,I x.ZR] 116)) ((gA none).block _ qK M);have Le:=i8 (wB.alloc (G #[I x.name,J x.lo,J x.hi,J x.pU,I x.on,J x.at_,I x.of,J x.YX,I x.ZR] 116)).drew ((gA none).block _ qK M);have Lf:=i8 wB ((gB none).block _ qK M);rw[gn]at e0 e1 e2 e3 e4 e5 e6 e7 e8 iE kO;go_wp2_with fail;have FT:=gA (U al ml cl).ownBlock;have uA:∀j,(U al ml cl).ownBlock=some j->w.heap.size+1<=j:=λj hj=>(World.ownsRow.lt oc j hj).1
   have⟨bx,ja⟩:=ZL wr.heap.size;rw[ja]at kO qK hnb e0 e1 e2 e3 e4 e5 e6 e7 e8 ⊢;have qt:∀(w1:World) (v':Value),wr.grownBy w1 (U al ml cl).ownBlock->Je w1 (w.heap.size+1) v' (jbt L x.name++[x])->(v'.ownBlock=(U al ml cl).ownBlock\/∃g,v'.ownBlock=some g/\bx<=g)->∃w2,(Instr.mapUpdate 274 (.map (some w.heap.size)) (I x.name) v').run Tryz.prog w1=.ok () w2/\Jp w2 (w.heap.size+1) w.heap.size (L++[x])/\w1.grownBy w2 (some w.heap.size):=λw1 v' g1 g2 g3=>ot w1 v' x rfl g1 g2 (by rw[ja];exact g3)
   have E9:=hid qt;clear gn ja j9 aK dI c0 c1 c2 c3 c4 c5 c6 c7 c8 HM hA i8 ot qt oQ gA gD gB oc;have FQ:∀j u,x.cs[j]? =some u->(wB.drew.alloc (G #[I x.name,J x.lo,J x.hi,J x.pU,I x.on,J x.at_,I x.of,J x.YX,I x.ZR] 116)).cell? (((O (bx+1) 0):Addr).add j)=some u:=by
    have:=Ka wB.drew x.cs 116;rw[show wB.drew.heap.size=bx+1 from kO]at this;exact this
   have Kt:w.heap.size<wB.heap.size:=Q;go_region_law (refine step_append_lies _ Si (.tmp 19) (.tmp 21) 23 Si (w.heap.size+1) 116 i0 (.agg #[Rn,J 0,J 0,J 0,Rn,J 0,Rn,J 0,Rn]) 9 104 Tryz.underlying23 hi aG aH aF rfl Q (U al ml cl) (jbt L x.name).length ((jbt L x.name).map ZQ.cs).flatten Si (nO (w:=wB.drew) Fn _) (O (bx+1) 0) 1 1 x.cs Si rfl FQ (by intro u hu;simp[ZQ.cs]at hu;rcases hu with rfl|rfl|rfl|rfl|rfl|rfl|rfl|rfl|rfl<;>rfl) Q (by unfold maxLen;omega) Q RO _ rfl ?_;intro g1 aC w1 av af bE hlt1;have r1:=af.cell (a:=(O bx 0)) (YR (ZA wB.drew _) e0) hnb;have ak:=FT.trans af;have⟨w2,jk,gS,bR⟩:=E9.out w1 (so g1 ((jbt L x.name).length+1) aC) ak (Je.add av) (bE.imp (λh=>h.symm) (λh=>⟨g1,rfl,by rw[h];simp;omega⟩)))
   all_goals
    have aj:Bw w w1:=((iE.trans ((rW wB).mono iE.size)).alloc iE.size _).grown af RO (λj hj=>by have:=uA j hj;omega);have an:Bw w w2:=aj.grown bR aj.size (λj hj=>by injection hj with hj;omega);have yJ:Hid (Jp w2 (w.heap.size+1) w.heap.size (l.take (k+1))):=by rw[HX.out];exact gS
    clear gS bR jk ak af bE hlt1 av E9 Fn FT uA Lc Ld Le Lf FQ HX r1;go_wp2;go_roundw
    .exact⟨k+1,RP,Q,yJ,an⟩
    .simp[intOf];omega
  .have kD:k=l.length:=Q
   have Hv:Hid (Jp wr (w.heap.size+1) w.heap.size l):=by rw[kD,List.take_length]at HM;exact HM
   have Ce:¬(k:Int)<(l.length:Int):=Q;clear HM kD;go_wp2;go_ret;exact⟨rfl,Hv.out,aK⟩
theorem jza(h:onB s=true):s.size<=8000:=by
 have hy:Ng 2000 1=true:=RN;have h1:M0 2000 1 s≠ -1000000:=by
  unfold onB Nn at h;rw[hy,if_pos rfl,jig hy]at h
  simpa using h
 have nb:∀t:ByteArray,Na 2000 1 t≠ -1000000->t.size<=2:=λt ht=>by
  rcases Nat.lt_or_ge 2 t.size with e|e
  .exact absurd (jl2 e) ht
  .exact e
 unfold M0 at h1;split at h1
 .rename_i hA
  have:=hA.1;unfold aB at this;simp at this;omega
 .split at h1
  .have:=nb _ (jqw h1).2
   simp[ByteArray.size_extract]at this;omega
  .split at h1
   .have:=nb _ (jli h1).2
    simp[ByteArray.size_extract]at this;omega
   .have:=nb _ h1
    omega
theorem Zw.seq{P:List Z5}(h:Zw w base v P):∃a cap,v=.slice a P.length cap/\Za w a 3 (P.map Z5.cs):=by
 obtain⟨a,cap,h1,h2,h3⟩:=jbe (rows:=P.map Z5.cs) (by rw[BX];exact h) j2m;rw[BX]at h1 h3;exact⟨a,cap,h1,h2⟩
theorem jm6(r:ZW)(v:Value)(nm:ByteArray)(off:Int)(w:World)(hv:Zd w v r)(hr:∀x∈r.Vv,BF x=true)(hl:r.Vv.length<=40)(di:∀x∈r.Vv,x.on.size<=1048576)(f1: -86400<=off)(f2:off<=86400):
  C 176 #[v,I nm,J off] w λe W'=>∃v' H b,e=V (.tuple #[v',.bool b])/\Zw W' w.heap.size v' H/\jxz r nm off H b/\Bw w W':=by
 have⟨i0,hi,aG,aH,aF⟩:=info_parts jr5;obtain⟨a,b,c,ca,cb,cc,rfl,hA,lV,nP⟩:=hv.form;have hv:Zd w (.agg #[U a r.Vv.length ca,U b r.YU.length cb,U c r.YW.length cc]) r:=⟨⟨a,b,c,ca,cb,cc,rfl,hA,lV,nP⟩⟩;have uM:=λw (h:Zd w (.agg #[U a r.Vv.length ca,U b r.YU.length cb,U c r.YW.length cc]) r)=>jlp r _ nm w h hr hl di
 have jv:Hid (∀x∈r.Vv,Jo x):=λx hx=>jrg (hr x hx)
 clear hr di lV nP;have eX:=ZA w (G #[U a r.Vv.length ca,U b r.YU.length cb,U c r.YW.length cc] 27);have x0:(w.alloc (G #[U a r.Vv.length ca,U b r.YU.length cb,U c r.YW.length cc] 27)).cell? (O w.heap.size 0)=some (U a r.Vv.length ca):=RQ;unfold C;go_in;go_wp2_with fail;refine(uM _ (hv.below eX)).mono ?_;rintro e w2 ⟨v2,s,ok,rfl,sq,aM,ac⟩;have an:=eX.trans (ac.mono M);have x2:=YR ac x0;have iA:=jya jv.out aM;have lh:=hid aM;have yR:=hid iA.place;have yS:=hid iA.YV;have iP:=iA.len;have I6:Hid (∀x∈r.Vv, -7200<=x.YX/\x.YX<=7200):=λx hx=>(jv.out x hx).YX
 obtain⟨a2,c2,rfl,cU,qf⟩:=sq;have Pi:w.heap.size<w2.heap.size:=ZI x2;clear ac x0 eX uM aM iA jv hv;have hE:Zw (w2.alloc (G #[] 223)) w2.heap.size (U (some (O w2.heap.size 0)) 0 0) (PP r.Vv off (s.take 0)).1:=ja5 w2 223 3;go_wp2;go_loopw [10,11,12] (λmY M6 rg wr=>∃k:Nat,k<=s.length/\rg=J k/\M6=J (PP r.Vv off (s.take k)).2/\Zw wr w2.heap.size mY (PP r.Vv off (s.take k)).1/\Bw w2 wr) (λ_ _ rg _=>s.length-(intOf rg).toNat)
 .exact⟨0,Q,rfl,rfl,hE,ZA _ _⟩
 ·
  clear hE;obtain⟨k,hk,rfl,rfl,ai,aK⟩:=hrel;have dI:=aK.size;have eM:=Zp an aK;have xr:=YR aK x2;obtain⟨a6,m6,d6,rfl⟩:=Dt ai;by_cases hlt:k<s.length
  .have⟨m,hm⟩:=DV hlt
   have gi:=ui hm;have eG:=yR.out m gi;have⟨PZ,Q0⟩:=yS.out m gi;obtain⟨x,hx⟩:∃x,r.Vv[m.place]? =some x:=⟨_,ZV eG⟩;obtain⟨bm,om,rfl,qw⟩:=(qf.below aK).at (i:=k) (r:=m.cs) (by rw[Z8,hm];rfl);have m0:wr.cell? (O bm (om+k*2))=some (J m.YV):=qw 0 _ rfl;have m1:wr.cell? (O bm (om+k*2+1))=some (J m.place):=qw 1 _ rfl;obtain⟨b9,o9,rfl,hc⟩:=(hA.below eM).at (i:=m.place) (r:=x.cs) (by rw[Z8,hx];rfl);have c0:wr.cell? (O b9 (o9+m.place*9))=some (I x.name):=hc 0 _ rfl;have c1:wr.cell? (O b9 (o9+m.place*9+1))=some (J x.lo):=hc 1 _ rfl;have Ir:wr.cell? (O b9 (o9+m.place*9+2))=some (J x.hi):=hc 2 _ rfl;have c3:wr.cell? (O b9 (o9+m.place*9+3))=some (J x.pU):=hc 3 _ rfl;have c4:wr.cell? (O b9 (o9+m.place*9+4))=some (I x.on):=hc 4 _ rfl;have c5:wr.cell? (O b9 (o9+m.place*9+5))=some (J x.at_):=hc 5 _ rfl;have c6:wr.cell? (O b9 (o9+m.place*9+6))=some (I x.of):=hc 6 _ rfl;have c7:wr.cell? (O b9 (o9+m.place*9+7))=some (J x.YX):=hc 7 _ rfl;have c8:wr.cell? (O b9 (o9+m.place*9+8))=some (I x.ZR):=hc 8 _ rfl;have hF:=jgl (off:=off) hm hx;have hfl:=joy (off:=off) yR.out k hk;have⟨rC,rD⟩:=jk7 (off:=off) yR.out I6.out k hk;have HF:=hid hF;have⟨⟨X,sv⟩,hX⟩:=ZL (PP r.Vv off (s.take k));rw[hX]at HF ai hfl rC rD;rw[hX];simp only at ai hfl rC rD;clear hF hX hc qw hm hx;have iD:X.length<=2000:=Q;have Kv:(m.place:Int)<(r.Vv.length:Int):=Q;have Ku:(0:Int)<=(m.place:Int):=Q;have Cd:(0:Int)<=(k:Int):=Q;have Q8:(k:Int)<(s.length:Int):=Q;clear hfl;cases hs:(x.of.toList==[115])
   .cases hw:(x.of.toList==[119])
    .have HP:Hid (jeb x m.YV off sv=⟨m.YV,x.YX,x.ZR⟩):=j2k hs hw
     go_wp2_with fail;go_region_held3 (λw'=>w'.cell? (O w.heap.size 0)=some (U (some (O b9 o9)) r.Vv.length ca)/\w'.cell? (O bm (om+k*2+1))=some (J m.place)/\w'.cell? (O b9 (o9+m.place*9))=some (I x.name)/\w'.cell? (O b9 (o9+m.place*9+1))=some (J x.lo)/\w'.cell? (O b9 (o9+m.place*9+2))=some (J x.hi)/\w'.cell? (O b9 (o9+m.place*9+3))=some (J x.pU)/\w'.cell? (O b9 (o9+m.place*9+4))=some (I x.on)/\w'.cell? (O b9 (o9+m.place*9+5))=some (J x.at_)/\w'.cell? (O b9 (o9+m.place*9+6))=some (I x.of)/\w'.cell? (O b9 (o9+m.place*9+7))=some (J x.YX)/\w'.cell? (O b9 (o9+m.place*9+8))=some (I x.ZR)) (go_keep) (fail)
     go_wp2_with (first
      |(at_builtin;refine wpList_append_own _ rfl _ _ 218 rfl w2.heap.size 223 i0 (.agg #[J 0,J 0,.string ⟨#[]⟩]) 3 32 Tryz.underlying218 hi aG aH aF rfl RN _ _ _ rfl (nO (nO ai _) _) ⟨wr.heap.size+1,0,none⟩ 1 1 [J (m.YV),J x.YX,.string x.ZR] rfl rfl ?c1a ?c2a ?c3a ?c4a ?c5a ?_)
      |fail)
     case c1a=>simpa using Ka (wr.alloc (G #[I x.name,J x.lo,J x.hi,J x.pU,I x.on,J x.at_,I x.of,J x.YX,I x.ZR] 116)) [J (m.YV),J x.YX,I x.ZR] 223
     case c2a=>intro u hu;simp at hu;rcases hu with rfl|rfl|rfl<;>rfl
     case c3a=>unfold maxLen;omega
     case c4a=>omega
     case c5a=>simp;omega
     intro v' wn ao af _;have bg:=(aK.alloc Q (G #[I x.name,J x.lo,J x.hi,J x.pU,I x.on,J x.at_,I x.of,J x.YX,I x.ZR] 116)).alloc RO (G #[J (m.YV),J x.YX,I x.ZR] 223);have df:Bw w2 wn:=(bg.trans ((rW _).mono bg.size)).grown af RO (λj hj=>(ai.lt j hj).1);have HO:Hid (Zw wn w2.heap.size v' (X++[⟨m.YV,x.YX,x.ZR⟩])):=Zw.add (p:=⟨m.YV,x.YX,x.ZR⟩) ao;obtain⟨a7,m7,d7,rfl⟩:=Dt ao;clear af ao ai bg;go_wp2;go_roundw
     .exact⟨k+1,Q,RP,by rw[HF.out],by rw[HF.out];simp only;rw[HP.out];exact HO.out,df⟩
     .simp[intOf];omega
    .have HP:Hid (jeb x m.YV off sv=⟨m.YV-off-sv,x.YX,x.ZR⟩):=j2j hs hw
     go_wp2_with fail;go_region_held3 (λw'=>w'.cell? (O w.heap.size 0)=some (U (some (O b9 o9)) r.Vv.length ca)/\w'.cell? (O bm (om+k*2+1))=some (J m.place)/\w'.cell? (O b9 (o9+m.place*9))=some (I x.name)/\w'.cell? (O b9 (o9+m.place*9+1))=some (J x.lo)/\w'.cell? (O b9 (o9+m.place*9+2))=some (J x.hi)/\w'.cell? (O b9 (o9+m.place*9+3))=some (J x.pU)/\w'.cell? (O b9 (o9+m.place*9+4))=some (I x.on)/\w'.cell? (O b9 (o9+m.place*9+5))=some (J x.at_)/\w'.cell? (O b9 (o9+m.place*9+6))=some (I x.of)/\w'.cell? (O b9 (o9+m.place*9+7))=some (J x.YX)/\w'.cell? (O b9 (o9+m.place*9+8))=some (I x.ZR)) (go_keep) (fail)
     go_wp2_with (first
      |(at_builtin;refine wpList_append_own _ rfl _ _ 218 rfl w2.heap.size 223 i0 (.agg #[J 0,J 0,.string ⟨#[]⟩]) 3 32 Tryz.underlying218 hi aG aH aF rfl RN _ _ _ rfl (nO (nO ai _) _) ⟨wr.heap.size+1,0,none⟩ 1 1 [J (m.YV-off-sv),J x.YX,.string x.ZR] rfl rfl ?c1b ?c2b ?c3b ?c4b ?c5b ?_)
      |fail)
     case c1b=>simpa using Ka (wr.alloc (G #[I x.name,J x.lo,J x.hi,J x.pU,I x.on,J x.at_,I x.of,J x.YX,I x.ZR] 116)) [J (m.YV-off-sv),J x.YX,I x.ZR] 223
     case c2b=>intro u hu;simp at hu;rcases hu with rfl|rfl|rfl<;>rfl
     case c3b=>unfold maxLen;omega
     case c4b=>omega
     case c5b=>simp;omega
     intro v' wn ao af _;have bg:=(aK.alloc Q (G #[I x.name,J x.lo,J x.hi,J x.pU,I x.on,J x.at_,I x.of,J x.YX,I x.ZR] 116)).alloc RO (G #[J (m.YV-off-sv),J x.YX,I x.ZR] 223);have df:Bw w2 wn:=(bg.trans ((rW _).mono bg.size)).grown af RO (λj hj=>(ai.lt j hj).1);have HO:Hid (Zw wn w2.heap.size v' (X++[⟨m.YV-off-sv,x.YX,x.ZR⟩])):=Zw.add (p:=⟨m.YV-off-sv,x.YX,x.ZR⟩) ao;obtain⟨a7,m7,d7,rfl⟩:=Dt ao;clear af ao ai bg;go_wp2;go_roundw
     .exact⟨k+1,Q,RP,by rw[HF.out],by rw[HF.out];simp only;rw[HP.out];exact HO.out,df⟩
     .simp[intOf];omega
   .have HP:Hid (jeb x m.YV off sv=⟨m.YV-off,x.YX,x.ZR⟩):=j2l hs
    go_wp2_with fail;go_region_held3 (λw'=>w'.cell? (O w.heap.size 0)=some (U (some (O b9 o9)) r.Vv.length ca)/\w'.cell? (O bm (om+k*2+1))=some (J m.place)/\w'.cell? (O b9 (o9+m.place*9))=some (I x.name)/\w'.cell? (O b9 (o9+m.place*9+1))=some (J x.lo)/\w'.cell? (O b9 (o9+m.place*9+2))=some (J x.hi)/\w'.cell? (O b9 (o9+m.place*9+3))=some (J x.pU)/\w'.cell? (O b9 (o9+m.place*9+4))=some (I x.on)/\w'.cell? (O b9 (o9+m.place*9+5))=some (J x.at_)/\w'.cell? (O b9 (o9+m.place*9+6))=some (I x.of)/\w'.cell? (O b9 (o9+m.place*9+7))=some (J x.YX)/\w'.cell? (O b9 (o9+m.place*9+8))=some (I x.ZR)) (go_keep) (fail)
    go_wp2_with (first
     |(at_builtin;refine wpList_append_own _ rfl _ _ 218 rfl w2.heap.size 223 i0 (.agg #[J 0,J 0,.string ⟨#[]⟩]) 3 32 Tryz.underlying218 hi aG aH aF rfl RN _ _ _ rfl (nO (nO ai _) _) ⟨wr.heap.size+1,0,none⟩ 1 1 [J (m.YV-off),J x.YX,.string x.ZR] rfl rfl ?c1c ?c2c ?c3c ?c4c ?c5c ?_)
     |fail)
    case c1c=>simpa using Ka (wr.alloc (G #[I x.name,J x.lo,J x.hi,J x.pU,I x.on,J x.at_,I x.of,J x.YX,I x.ZR] 116)) [J (m.YV-off),J x.YX,I x.ZR] 223
    case c2c=>intro u hu;simp at hu;rcases hu with rfl|rfl|rfl<;>rfl
    case c3c=>unfold maxLen;omega
    case c4c=>omega
    case c5c=>simp;omega
    intro v' wn ao af _;have bg:=(aK.alloc Q (G #[I x.name,J x.lo,J x.hi,J x.pU,I x.on,J x.at_,I x.of,J x.YX,I x.ZR] 116)).alloc RO (G #[J (m.YV-off),J x.YX,I x.ZR] 223);have df:Bw w2 wn:=(bg.trans ((rW _).mono bg.size)).grown af RO (λj hj=>(ai.lt j hj).1);have HO:Hid (Zw wn w2.heap.size v' (X++[⟨m.YV-off,x.YX,x.ZR⟩])):=Zw.add (p:=⟨m.YV-off,x.YX,x.ZR⟩) ao;obtain⟨a7,m7,d7,rfl⟩:=Dt ao;clear af ao ai bg;go_wp2;go_roundw
    .exact⟨k+1,Q,RP,by rw[HF.out],by rw[HF.out];simp only;rw[HP.out];exact HO.out,df⟩
    .simp[intOf];omega
  .obtain rfl:k=s.length:=Q
   rw[List.take_length]at ai;have HH:Hid (jxz r nm off (PP r.Vv off s).1 ok):=⟨s,lh.out,rfl⟩;rw[List.take_length];go_wp2;exact ZM (v:=.tuple #[U a6 m6 d6,.bool ok]) (by simp[results,Tryz.results176,go_sem]) rfl ⟨_,_,ok,rfl,Ez ai an.size,HH.out,eM⟩
theorem jid{r:ZW}(h:ZZ r=true):r.Vv.length<=40/\∀x∈r.Vv,BF x=true:=by
 unfold ZZ at h;simp only[vB,decide_eq_true_eq,List.all_eq_true]at h;exact⟨h.1.1,h.2.1⟩
