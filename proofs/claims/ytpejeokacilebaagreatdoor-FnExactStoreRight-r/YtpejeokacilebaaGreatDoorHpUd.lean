import Derived.Test.YtpejeokacilebaaGreatDoorMarkPd
import Derived.Test.YtpejeokacilebaaGreatDoorHpRd
set_option maxRecDepth 20000
set_option maxHeartbeats 0
set_option linter.unusedSimpArgs false
open Go.RowKit
namespace Go.Proofs.YtpejeokacilebaaGreatDoor
section
open Go.RowKit Go.ChangeMaps Go.MapKept Go.WideMaps
theorem jhz{s t:ByteArray}(h:s.toList=t.toList):s=t:=by
 rw[ByteArray.toList_eq,ByteArray.toList_eq]at h
 cases s;cases t;congr;exact Array.toList_inj.mp h
def Je(w:World)(base:Nat)(v:Value)(l:List RuleD):Prop:=w.ownsRow base 77 9 v l.length (l.map RuleD.cs).flatten
def jbt(l:List RuleD)(nm:ByteArray):List RuleD:=l.filter fun x=>x.name.toList==nm.toList
theorem jpx(l:List RuleD)(x:RuleD):jbt (l++[x]) x.name=jbt l x.name++[x]:=by
 unfold jbt
 rw[List.filter_append]
 simp
theorem jgw{l:List RuleD}{x:RuleD}{nm:ByteArray}(h:nm≠x.name):jbt (l++[x]) nm=jbt l nm:=by
 unfold jbt
 rw[List.filter_append]
 have e:(x.name.toList==nm.toList)=false:=by
  rw[beq_eq_false_iff_ne]
  exact fun e=>h (jhz e).symm
 simp[e]
structure MapE(w:World)(base:Nat)(l:List RuleD)(es:List MapEntry):Prop where
 each:∀x∈es,∃nm,x.key=.string nm/\nm.size<=maxLen/\Je w base x.val (jbt l nm)
 none:∀nm,(∀x∈es,x.key≠ .string nm)->jbt l nm=[]
 apart:∀(i j:Nat) (x y:MapEntry),i≠j->es[i]? =some x->es[j]? =some y->x.key≠y.key/\(x.val.ownBlock=.none\/x.val.ownBlock≠y.val.ownBlock)
def Jp(w:World)(base b:Nat)(l:List RuleD):Prop:=∃es aZ,w.heap[b]? =some (.map es aZ)/\b<base/\MapE w base l es.toList
theorem jv9(w:World):Jp (w.alloc (.map #[] 0)) (w.heap.size+1) w.heap.size []:=
 ⟨#[],0,(MapKept.heap_alloc w _).1,Nat.lt_succ_self _,⟨fun x hx=>by simp at hx,fun _ _=>rfl,fun i j x y _ hx=>by simp at hx⟩⟩
theorem Jp.lt{w:World}{base b:Nat}{l:List RuleD}(h:Jp w base b l):b<w.heap.size:=by
 obtain⟨es,aZ,hb,_⟩:=h
 exact(Array.getElem?_eq_some_iff.1 hb).1
theorem Jp.kept{w w':World}{base b:Nat}{l:List RuleD}(h:Jp w base b l)(hg:w.grownBy w' none):Jp w' base b l:=by
 have hlt:=h.lt
 obtain⟨es,aZ,hb,iF,hE⟩:=h
 refine⟨es,aZ,(hg.block b hlt (by simp)).trans hb,iF,⟨fun x hx=>?_,hE.none,hE.apart⟩⟩
 obtain⟨nm,h1,h2,h3⟩:=hE.each x hx
 exact⟨nm,h1,h2,h3.kept hg (by cases x.val.ownBlock<;>simp)⟩
theorem Jp.below{w w':World}{base b:Nat}{l:List RuleD}(h:Jp w base b l)(hb:Bw w w'):Jp w' base b l:=h.kept ⟨hb.os,hb.tape,hb.output,hb.size,fun k hk _=>hb.block k hk⟩
theorem jru {w w1 w2:World} {base b:Nat} {l:List RuleD} {es rY:List MapEntry} {x:RuleD} {v v':Value} {j:Nat} {e':MapEntry} (hE:MapE w base l es) (iF:b<base)
  (hg:w.grownBy w1 v.ownBlock) (bR:w1.grownBy w2 (some b)) (hn:x.name.size<=maxLen) (oJ:Je w1 base v' (jbt l x.name++[x])) (dh:v'.ownBlock=v.ownBlock\/∃g,v'.ownBlock=some g/\w.heap.size<=g)
  (h1:rY[j]? =some e') (hk:e'.key=.string x.name) (eT:e'.val=v') (h2:∀i,i≠j->rY[i]? =es[i]?) (h3:∀i y,i≠j->es[i]? =some y->y.key≠ .string x.name/\(y.val.ownBlock=none\/y.val.ownBlock≠v.ownBlock))
  (h4:∀y,es[j]? =some y->y.key=.string x.name):MapE w2 base (l++[x]) rY:=by
 have nb:∀{u:Value} {z:List RuleD},Je w1 base u z->u.ownBlock=none\/u.ownBlock≠some b:=fun {u z} ho=>by
  cases hu:u.ownBlock with
  |none=>exact .inl rfl
  |some g=>
   refine .inr fun e=>?_
   have:=(World.ownsRow.lt ho g hu).1
   cases e
   omega
 have GJ:∀i y,i≠j->es[i]? =some y->y.val.ownBlock=none\/y.val.ownBlock≠v'.ownBlock:=fun i y hi hy=>by
  rcases dh with e|⟨g,e,K7⟩
  ·rw[e];exact(h3 i y hi hy).2
  ·cases hyb:y.val.ownBlock with
   |none=>exact .inl rfl
   |some gy=>
    obtain⟨nm,_,_,ho⟩:=hE.each y (lmg hy)
    have:=(World.ownsRow.lt ho gy hyb).2
    refine .inr fun e1=>?_
    rw[e]at e1
    cases e1
    omega
 refine⟨fun y hy=>?_,fun nm Co=>?_,fun i k p q oB hp hq=>?_⟩
 ·obtain⟨i,hi⟩:=lgo hy
  by_cases eF:i=j
  ·subst eF
   rw[h1]at hi
   cases hi
   exact⟨x.name,hk,hn,by rw[jpx,eT];exact World.ownsRow.kept oJ bR (nb oJ)⟩
  ·rw[h2 i eF]at hi
   obtain⟨nm,c1,c2,c3⟩:=hE.each y (lmg hi)
   obtain⟨d1,d2⟩:=h3 i y eF hi
   have az:nm≠x.name:=fun e=>d1 (by rw[c1,e])
   have c4:Je w1 base y.val (jbt l nm):=World.ownsRow.kept c3 hg d2
   exact⟨nm,c1,c2,by rw[jgw az];exact World.ownsRow.kept c4 bR (nb c4)⟩
 ·have az:nm≠x.name:=fun e=>Co e' (lmg h1) (by rw[hk,e])
  rw[jgw az]
  refine hE.none nm fun y hy=>?_
  obtain⟨i,hi⟩:=lgo hy
  by_cases eF:i=j
  ·subst eF
   rw[h4 y hi]
   exact fun e=>az (by injection e with e;exact e.symm)
  ·exact Co y (lmg (by rw[h2 i eF];exact hi))
 ·by_cases eF:i=j
  ·subst eF
   rw[h1]at hp
   cases hp
   rw[h2 k (Ne.symm oB)]at hq
   obtain⟨d1,_⟩:=h3 k q (Ne.symm oB) hq
   refine⟨by rw[hk];exact Ne.symm d1,?_⟩
   rw[eT]
   rcases GJ k q (Ne.symm oB) hq with e|e
   ·rw[e]
    cases v'.ownBlock<;>simp
   ·exact .inr (Ne.symm e)
  ·rw[h2 i eF]at hp
   by_cases G2:k=j
   ·subst G2
    rw[h1]at hq
    cases hq
    exact⟨by rw[hk];exact(h3 i p eF hp).1,by rw[eT];exact GJ i p eF hp⟩
   ·rw[h2 k G2]at hq
    exact hE.apart i k p q oB hp hq
def BackR(P:Program)(T:TypeId)(w:World)(base b:Nat)(l:List RuleD)(nm:ByteArray)(v:Value):Prop:=
 ∀(w1:World) (v':Value) (x:RuleD),x.name=nm->w.grownBy w1 v.ownBlock->Je w1 base v' (jbt l nm++[x])->(v'.ownBlock=v.ownBlock\/∃g,v'.ownBlock=some g/\w.heap.size<=g)->
  ∃w2,(Instr.mapUpdate T (.map (some b)) (.string nm) v').run P w1=.ok () w2/\Jp w2 base b (l++[x])/\w1.grownBy w2 (some b)
theorem jwa{P:Program}{T K E:TypeId}{w:World}{base b:Nat}{l:List RuleD}(h:Jp w base b l)(hT:P.underlying T=some (.map K E))(hK:P.underlying K=some .string)(hz:∀W,(zeroValue E).run P W=.ok nS W)(nm:ByteArray)(hn:nm.size<=maxLen):
  ∃v,(∀W:World,W.heap[b]? =w.heap[b]? ->(Instr.lookup T (.map (some b)) (.string nm) false).run P W=.ok v W)/\Je w base v (jbt l nm)/\BackR P T w base b l nm v:=by
 have KK:=Maps.string_keyed hK
 have hlt:=h.lt
 obtain⟨es,aZ,hb,iF,hE⟩:=h
 have bS:=keyOf_string_mk hK hn
 have vc:∀e∈es.toList,∃l,keyOf P K e.key=some l:=fun e he=>by
  obtain⟨s,h1,h2,_⟩:=hE.each e he
  exact⟨_,by rw[h1];exact keyOf_string_mk hK h2⟩
 have nh:∀{w1:World} {rY:Array MapEntry} {c':Nat},w1.heap[b]? =some (.map es aZ)->w1.grownBy (setBlock w1 b (.map rY c')) (some b):=fun {w1 rY c'} hb1=>⟨rfl,rfl,rfl,by simp[setBlock],fun i _ hi=>heap_setBlock_other hb1 _ (fun e1=>hi (by rw[e1]))⟩
 rcases KK.find w bS es.toList vc with⟨f1,f2⟩|⟨j,e0,f1,f2,f3⟩
 ·refine⟨nS,fun W hW=>?_,by rw[hE.none nm f2];exact World.ownsRow_nil _ _ _ _,?_⟩
  ·have iE:=hW.trans hb
   rcases KK.find W bS es.toList vc with⟨g1,_⟩|⟨j,e0,_,g2,g3⟩
   ·simp[Instr.lookup,run_underlying hT,MapKept.run_getObj_map iE,KK.check W _ bS,g1,hz,Result.andThen]
   ·exact absurd g3 (f2 e0 (lmg g2))
  intro w1 v' x hx hg oJ dh
  subst hx
  have hb1:w1.heap[b]? =some (.map es aZ):=(hg.block b hlt (by simp[Value.ownBlock])).trans hb
  rcases KK.find w1 bS es.toList vc with⟨g1,_⟩|⟨j,e0,_,g2,g3⟩
  ·refine⟨setBlock w1 b (.map (es.push ⟨.string x.name,v',aZ⟩) (aZ+1)),by simp[Instr.mapUpdate,run_underlying hT,MapKept.run_getObj_map hb1,KK.check w1 false bS,g1,MapKept.run_setObj_map _ hb1,Result.andThen,setBlock],⟨_,_,heap_setBlock_same hb1 _,iF,?_⟩,nh hb1⟩
   refine jru (j:=es.toList.length) (e':=⟨.string x.name,v',aZ⟩) hE iF hg (nh hb1) hn oJ dh ?_ rfl rfl (fun i hi=>?_) (fun i y _ hy=>⟨f2 y (lmg hy),?_⟩) (fun y hy=>?_)
   ·rw[Array.toList_push,List.getElem?_append_right (nlr _)];simp
   ·rw[Array.toList_push]
    by_cases hlt:i<es.toList.length
    ·rw[lgl hlt]
    ·rw[List.getElem?_eq_none (by simp at *;omega),List.getElem?_eq_none (by omega)]
   ·cases y.val.ownBlock<;>simp[Value.ownBlock]
   ·rw[List.getElem?_eq_none (nlr _)]at hy;cases hy
  ·exact absurd g3 (f2 e0 (lmg g2))
 ·obtain⟨s0,k1,_,k3⟩:=hE.each e0 (lmg f2)
  have dP:s0=nm:=by rw[k1]at f3;injection f3
  subst dP
  have KQ:e0.val.ownBlock≠some b:=fun e=>by
   have:=(World.ownsRow.lt k3 b e).1
   omega
  refine⟨e0.val,fun W hW=>?_,k3,?_⟩
  ·have iE:=hW.trans hb
   rcases KK.find W bS es.toList vc with⟨_,g2⟩|⟨j1,e1,g1,g2,g3⟩
   ·exact absurd f3 (g2 e0 (lmg f2))
   ·have hj:j1=j:=by
     by_cases az:j1=j
     ·exact az
     ·exact absurd (g3.trans f3.symm) (hE.apart j1 j e1 e0 az g2 f2).1
    subst hj
    have he:e1=e0:=by rw[g2]at f2;cases f2;rfl
    subst he
    simp[Instr.lookup,run_underlying hT,MapKept.run_getObj_map iE,KK.check W _ bS,g1,Result.andThen]
  intro w1 v' x hx hg oJ dh
  subst hx
  have hb1:w1.heap[b]? =some (.map es aZ):=(hg.block b hlt (fun e=>KQ e.symm)).trans hb
  rcases KK.find w1 bS es.toList vc with⟨_,g2⟩|⟨j1,e1,g1,g2,g3⟩
  ·exact absurd f3 (g2 e0 (lmg f2))
  ·have hj:j1=j:=by
    by_cases az:j1=j
    ·exact az
    ·exact absurd (g3.trans f3.symm) (hE.apart j1 j e1 e0 az g2 f2).1
   subst hj
   have he:e1=e0:=by rw[g2]at f2;cases f2;rfl
   subst he
   have Kd:es[j1]? =some e1:=by simpa using g2
   have vg:(es.modify j1 (fun e'=>{ e' with key:=.string x.name,val:=v' })).toList=es.toList.set j1 { e1 with key:=.string x.name,val:=v' }:=by rw[Array.toList_modify,modify_eq_set _ _ _ _ g2]
   refine⟨setBlock w1 b (.map (es.modify j1 (fun e'=>{ e' with key:=.string x.name,val:=v' })) aZ),by simp[Instr.mapUpdate,run_underlying hT,MapKept.run_getObj_map hb1,KK.check w1 false bS,g1,Kd,g3,KK.stays w1 bS,MapKept.run_setObj_map _ hb1,Result.andThen,setBlock],⟨_,_,heap_setBlock_same hb1 _,iF,?_⟩,nh hb1⟩
   rw[vg]
   have eP:j1<es.toList.length:=(List.getElem?_eq_some_iff.1 g2).1
   refine jru (j:=j1) (e':={ e1 with key:=.string x.name,val:=v' }) hE iF hg (nh hb1) hn oJ dh ?_ rfl rfl (fun i hi=>?_) (fun i y hi hy=>⟨?_,?_⟩) (fun y hy=>?_)
   ·rw[List.getElem?_set_self eP]
   ·rw[List.getElem?_set_ne (Ne.symm hi)]
   ·have:=(hE.apart i j1 y e1 hi hy g2).1
    rw[g3]at this
    exact this
   ·exact(hE.apart i j1 y e1 hi hy g2).2
   ·rw[g2]at hy;cases hy;exact g3
end
theorem j2g:(Tryz.prog.info? 77).map (fun i=>(i.zero,i.size,i.bytes))=some (some (.agg #[.string ⟨#[]⟩,iv 0,iv 0,iv 0,.string ⟨#[]⟩,iv 0,.string ⟨#[]⟩,iv 0,.string ⟨#[]⟩]),9,104):=by kernel_rfl
theorem jmx(w:World):(zeroValue 33).run Tryz.prog w=.ok nS w:=by kernel_rfl
theorem Je.add{w:World}{base:Nat}{v:Value}{l:List RuleD}{x:RuleD}(h:w.ownsRow base 77 9 v (l.length+1) ((l.map RuleD.cs).flatten++x.cs)):Je w base v (l++[x]):=by
 unfold Je
 rw[lla,lma,List.flatten_append]
 simpa using h
theorem juw{l:List RuleD}{k:Nat}{x:RuleD}(h:l[k]? =some x):l.take (k+1)=l.take k++[x]:=by rw[List.take_add_one,h];rfl
theorem jhd(l:List RuleD)(a:Option Addr)(ca:Nat)(w:World)(hA:Za w a 9 (l.map RuleD.cs))(hl:l.length<=40)(hn:∀x∈l,x.name.size<=maxLen):
  Cl 208 #[.slice a l.length ca] w fun e W'=>e=.returned (.map (some w.heap.size))/\Jp W' (w.heap.size+1) w.heap.size l/\Bw w W':=by
 obtain⟨i0,hi,aG,aH,aF⟩:=info_parts j2g
 have HN:=hid hn
 clear hn
 have dD:Hid (Jp (w.alloc (.map #[] 0)) (w.heap.size+1) w.heap.size (l.take 0)):=jv9 w
 have ag:Bw w (w.alloc (.map #[] 0)):=qal w _
 have gi:=@run_makeMap Tryz.prog
 unfold Cl;go_in
 go_wp2
 go_loopw [9] (fun s9 wr=>∃k:Nat,s9=iv k/\k<=l.length/\Hid (Jp wr (w.heap.size+1) w.heap.size (l.take k))/\Bw w wr) (fun s9 _=>(l.length-intOf s9).toNat)
 case atStart=>exact⟨0,rfl,by omega,dD,ag⟩
 case round=>
  clear dD ag
  obtain⟨k,rfl,hk,HM,aK⟩:=hrel
  have dI:=aK.size
  have qK:w.heap.size<wr.heap.size:=HM.out.lt
  by_cases eY:k<l.length
  ·obtain⟨x,hx⟩:=qgg eY
   have KY:=HN.out x (lmg hx)
   obtain⟨b9,o9,rfl,hc⟩:=(hA.below aK).at (i:=k) (r:=x.cs) (by rw[lgm,hx];rfl)
   have c0:wr.cell? (ad b9 (o9+k*9))=some (.string x.name):=hc 0 _ rfl
   have c1:=hc 1 _ rfl
   have c2:=hc 2 _ rfl
   have c3:=hc 3 _ rfl
   have c4:=hc 4 _ rfl
   have c5:=hc 5 _ rfl
   have c6:=hc 6 _ rfl
   have c7:=hc 7 _ rfl
   have c8:=hc 8 _ rfl
   have HX:Hid (l.take (k+1)=l.take k++[x]):=juw hx
   have Ce:(k:Int)<(l.length:Int):=by omega
   clear hc hx
   obtain⟨L,hL⟩:=qeb (l.take k)
   have ma:L.length<=40:=by rw[<- hL,List.length_take];omega
   have OQ:(jbt L x.name).length<=40:=Nat.le_trans (List.length_filter_le _ _) ma
   rw[hL]at HX HM
   clear hL
   have j9:=qal wr (.cells #[.string x.name,iv x.lo,iv x.hi,iv x.month,.string x.on,iv x.at_,.string x.of,iv x.save,.string x.letter] 77)
   have oQ:=HM.out.below j9
   obtain⟨e0,e1,e2,e3,e4,e5,e6,e7,e8⟩:(fun z:World=>z.cell? (ad wr.heap.size 0)=some (.string x.name)/\z.cell? (ad wr.heap.size 1)=some (iv x.lo)/\z.cell? (ad wr.heap.size 2)=some (iv x.hi)/\z.cell? (ad wr.heap.size 3)=some (iv x.month)/\z.cell? (ad wr.heap.size 4)=some (.string x.on)/\z.cell? (ad wr.heap.size 5)=some (iv x.at_)/\z.cell? (ad wr.heap.size 6)=some (.string x.of)/\z.cell? (ad wr.heap.size 7)=some (iv x.save)/\z.cell? (ad wr.heap.size 8)=some (.string x.letter)) (wr.alloc (.cells #[.string x.name,iv x.lo,iv x.hi,iv x.month,.string x.on,iv x.at_,.string x.of,iv x.save,.string x.letter] 77)):=by simp[go_sem]
   have iE:=aK.alloc dI (.cells #[.string x.name,iv x.lo,iv x.hi,iv x.month,.string x.on,iv x.at_,.string x.of,iv x.save,.string x.letter] 77)
   have kO:(wr.alloc (.cells #[.string x.name,iv x.lo,iv x.hi,iv x.month,.string x.on,iv x.at_,.string x.of,iv x.save,.string x.letter] 77)).heap.size=wr.heap.size+1:=by simp
   obtain⟨vl,i8,oc,ot⟩:=jwa (P:=Tryz.prog) (T:=264) HM.out Tryz.underlying264 Tryz.underlying9 jmx x.name KY
   obtain⟨al,ml,cl,rfl⟩:=jad oc
   have ps:some wr.heap.size≠(Value.slice al ml cl).ownBlock:=fun e=>by have:=(World.ownsRow.lt oc _ e.symm).2;omega
   obtain⟨wB,gn⟩:=qeb ((wr.alloc (.cells #[.string x.name,iv x.lo,iv x.hi,iv x.month,.string x.on,iv x.at_,.string x.of,iv x.save,.string x.letter] 77)))
   have gB:∀ro,wr.grownBy wB ro:=fun ro=>by rw[<- gn];exact World.grownBy_alloc _ _ _
   have gD:∀ro,wr.grownBy wB.drew ro:=fun ro=>⟨(gB ro).os,(gB ro).tape,(gB ro).output,(gB ro).size,(gB ro).block⟩
   have gA:∀ro,wr.grownBy (wB.drew.alloc (.cells #[.string x.name,iv x.lo,iv x.hi,iv x.month,.string x.on,iv x.at_,.string x.of,iv x.save,.string x.letter] 77)) ro:=fun ro=>(gD ro).trans (World.grownBy_alloc _ _ _)
   have Fn:Je wB.drew (w.heap.size+1) (.slice al ml cl) (jbt L x.name):=World.ownsRow.kept oc (gD none) (by cases (Value.slice al ml cl).ownBlock<;>simp)
   have Lc:=i8 wB.drew ((gD none).block _ qK (by simp))
   have Ld:=i8 (wB.drew.alloc (.cells #[.string x.name,iv x.lo,iv x.hi,iv x.month,.string x.on,iv x.at_,.string x.of,iv x.save,.string x.letter] 77)) ((gA none).block _ qK (by simp))
   have Le:=i8 (wB.alloc (.cells #[.string x.name,iv x.lo,iv x.hi,iv x.month,.string x.on,iv x.at_,.string x.of,iv x.save,.string x.letter] 77)).drew ((gA none).block _ qK (by simp))
   have Lf:=i8 wB ((gB none).block _ qK (by simp))
   rw[gn]at e0 e1 e2 e3 e4 e5 e6 e7 e8 iE kO
   go_wp2_with fail
   have FT:=gA (Value.slice al ml cl).ownBlock
   have uA:∀j,(Value.slice al ml cl).ownBlock=some j->w.heap.size+1<=j:=fun j hj=>(World.ownsRow.lt oc j hj).1
   obtain⟨bx,ja⟩:=qeb wr.heap.size
   rw[ja]at kO qK ps e0 e1 e2 e3 e4 e5 e6 e7 e8 ⊢
   have qt:∀(w1:World) (v':Value),wr.grownBy w1 (Value.slice al ml cl).ownBlock->Je w1 (w.heap.size+1) v' (jbt L x.name++[x])->(v'.ownBlock=(Value.slice al ml cl).ownBlock\/∃g,v'.ownBlock=some g/\bx<=g)->∃w2,(Instr.mapUpdate 264 (.map (some w.heap.size)) (.string x.name) v').run Tryz.prog w1=.ok () w2/\Jp w2 (w.heap.size+1) w.heap.size (L++[x])/\w1.grownBy w2 (some w.heap.size):=fun w1 v' g1 g2 g3=>ot w1 v' x rfl g1 g2 (by rw[ja];exact g3)
   have E9:=hid qt
   clear gn ja j9 aK dI c0 c1 c2 c3 c4 c5 c6 c7 c8 HM hA i8 ot qt oQ gA gD gB oc
   have FQ:∀j u,x.cs[j]? =some u->(wB.drew.alloc (.cells #[.string x.name,iv x.lo,iv x.hi,iv x.month,.string x.on,iv x.at_,.string x.of,iv x.save,.string x.letter] 77)).cell? (((ad (bx+1) 0):Addr).add j)=some u:=by
    have:=jah wB.drew x.cs 77
    rw[show wB.drew.heap.size=bx+1 from kO]at this
    exact this
   have Kt:w.heap.size<wB.heap.size:=by omega
   go_region_law (refine step_append_lies _ (by rfl) (.tmp 19) (.tmp 21) 33 (by rfl) (w.heap.size+1) 77 i0 (.agg #[.string ⟨#[]⟩,iv 0,iv 0,iv 0,.string ⟨#[]⟩,iv 0,.string ⟨#[]⟩,iv 0,.string ⟨#[]⟩]) 9 104 Tryz.underlying33 hi aG aH aF rfl (by omega) (.slice al ml cl) (jbt L x.name).length ((jbt L x.name).map RuleD.cs).flatten (by rfl) (woa (w:=wB.drew) Fn _) (ad (bx+1) 0) 1 1 x.cs (by rfl) rfl FQ (by intro u hu;simp[RuleD.cs]at hu;rcases hu with rfl|rfl|rfl|rfl|rfl|rfl|rfl|rfl|rfl<;>rfl) (by omega) (by unfold maxLen;omega) (by omega) (by simp;omega) _ rfl ?_;intro g1 aC w1 av af bE hlt1;have r1:=af.cell (a:=(ad bx 0)) (jaa (qal wB.drew _) e0) ps;have ak:=FT.trans af;obtain⟨w2,jk,gS,bR⟩:=E9.out w1 (so g1 ((jbt L x.name).length+1) aC) ak (Je.add av) (bE.imp (fun h=>h.symm) (fun h=>⟨g1,rfl,by rw[h];simp;omega⟩)))
   all_goals
    have aj:Bw w w1:=((iE.trans ((jab wB).mono iE.size)).alloc iE.size _).grown af (by simp;omega) (fun j hj=>by have:=uA j hj;omega)
    have an:Bw w w2:=aj.grown bR aj.size (fun j hj=>by injection hj with hj;omega)
    have yJ:Hid (Jp w2 (w.heap.size+1) w.heap.size (l.take (k+1))):=by rw[HX.out];exact gS
    clear gS bR jk ak af bE hlt1 av E9 Fn FT uA Lc Ld Le Lf FQ HX r1
    go_wp2
    go_roundw
    case rel=>exact⟨k+1,by go_num,by omega,yJ,an⟩
    case measure=>simp[intOf];omega
  ·have kD:k=l.length:=by omega
   have Hv:Hid (Jp wr (w.heap.size+1) w.heap.size l):=by rw[kD,List.take_length]at HM;exact HM
   have Ce:¬(k:Int)<(l.length:Int):=by omega
   clear HM kD
   go_wp2
   go_ret
   exact⟨rfl,Hv.out,aK⟩
theorem jza{s:ByteArray}(h:onB s=true):s.size<=8000:=by
 have hy:ymB 2000 1=true:=by decide
 have h1:moV 2000 1 s≠ -1000000:=by
  unfold onB jbj at h
  rw[hy,if_pos rfl,jig hy]at h
  simpa using h
 have nb:∀t:ByteArray,nbV 2000 1 t≠ -1000000->t.size<=2:=fun t ht=>by
  rcases Nat.lt_or_ge 2 t.size with e|e
  ·exact absurd (jl2 e) ht
  ·exact e
 unfold moV at h1
 split at h1
 ·rename_i hA
  have:=hA.1
  unfold aB at this
  simp at this
  omega
 ·split at h1
  ·have:=nb _ (jqw h1).2
   simp[ByteArray.size_extract]at this
   omega
  ·split at h1
   ·have:=nb _ (jli h1).2
    simp[ByteArray.size_extract]at this
    omega
   ·have:=nb _ h1
    omega
theorem Zw.seq{w:World}{base:Nat}{v:Value}{P:List HapD}(h:Zw w base v P):∃a cap,v=.slice a P.length cap/\Za w a 3 (P.map HapD.cs):=by
 obtain⟨a,cap,h1,h2,h3⟩:=jbe (rows:=P.map HapD.cs) (by rw[llm];exact h) j2m
 rw[llm]at h1 h3
 exact⟨a,cap,h1,h2⟩
theorem jm6(r:RelD)(v:Value)(nm:ByteArray)(off:Int)(w:World)(hv:Zd w v r)(hr:∀x∈r.rules,jaw x=true)(hl:r.rules.length<=40)(di:∀x∈r.rules,x.on.size<=1048576)(f1: -86400<=off)(f2:off<=86400):
  Cl 125 #[v,.string nm,iv off] w fun e W'=>∃v' H b,e=.returned (.tuple #[v',.bool b])/\Zw W' w.heap.size v' H/\jxz r nm off H b/\Bw w W':=by
 obtain⟨i0,hi,aG,aH,aF⟩:=info_parts jr5
 obtain⟨a,b,c,ca,cb,cc,rfl,hA,lV,nP⟩:=hv.form
 have hv:Zd w (.agg #[.slice a r.rules.length ca,.slice b r.zones.length cb,.slice c r.links.length cc]) r:=⟨⟨a,b,c,ca,cb,cc,rfl,hA,lV,nP⟩⟩
 have uM:=fun w (h:Zd w (.agg #[.slice a r.rules.length ca,.slice b r.zones.length cb,.slice c r.links.length cc]) r)=>jlp r _ nm w h hr hl di
 have jv:Hid (∀x∈r.rules,Jo x):=fun x hx=>jrg (hr x hx)
 clear hr di lV nP
 have eX:=qal w (.cells #[.slice a r.rules.length ca,.slice b r.zones.length cb,.slice c r.links.length cc] 37)
 have x0:(w.alloc (.cells #[.slice a r.rules.length ca,.slice b r.zones.length cb,.slice c r.links.length cc] 37)).cell? (ad w.heap.size 0)=some (.slice a r.rules.length ca):=by simp[go_sem]
 unfold Cl;go_in
 go_wp2_with fail
 refine(uM _ (hv.below eX)).mono ?_
 rintro e w2 ⟨v2,s,ok,rfl,sq,aM,ac⟩
 have an:=eX.trans (ac.mono (by simp))
 have x2:=jaa ac x0
 have iA:=jya jv.out aM
 have lh:=hid aM
 have yR:=hid iA.place
 have yS:=hid iA.wall
 have iP:=iA.len
 have I6:Hid (∀x∈r.rules, -7200<=x.save/\x.save<=7200):=fun x hx=>(jv.out x hx).save
 obtain⟨a2,c2,rfl,cU,qf⟩:=sq
 have Pi:w.heap.size<w2.heap.size:=qbl x2
 clear ac x0 eX uM aM iA jv hv
 have hE:Zw (w2.alloc (.cells #[] 199)) w2.heap.size (.slice (some (ad w2.heap.size 0)) 0 0) (jbv r.rules off (s.take 0)).1:=ja5 w2 199 3
 go_wp2
 go_loopw [10,11,12] (fun mY M6 rg wr=>∃k:Nat,k<=s.length/\rg=iv k/\M6=iv (jbv r.rules off (s.take k)).2/\Zw wr w2.heap.size mY (jbv r.rules off (s.take k)).1/\Bw w2 wr) (fun _ _ rg _=>s.length-(intOf rg).toNat)
 case atStart=>exact⟨0,by omega,rfl,rfl,hE,qal _ _⟩
 case round=>
  clear hE
  obtain⟨k,hk,rfl,rfl,ai,aK⟩:=hrel
  have dI:=aK.size
  have eM:=qtr an aK
  have xr:=jaa aK x2
  obtain⟨a6,m6,d6,rfl⟩:=jad ai
  by_cases hlt:k<s.length
  ·obtain⟨m,hm⟩:=qgg hlt
   have gi:=lmg hm
   have eG:=yR.out m gi
   obtain⟨PZ,Q0⟩:=yS.out m gi
   obtain⟨x,hx⟩:∃x,r.rules[m.place]? =some x:=⟨_,lgg eG⟩
   obtain⟨bm,om,rfl,qw⟩:=(qf.below aK).at (i:=k) (r:=m.cs) (by rw[lgm,hm];rfl)
   have m0:wr.cell? (ad bm (om+k*2))=some (iv m.wall):=qw 0 _ rfl
   have m1:wr.cell? (ad bm (om+k*2+1))=some (iv m.place):=qw 1 _ rfl
   obtain⟨b9,o9,rfl,hc⟩:=(hA.below eM).at (i:=m.place) (r:=x.cs) (by rw[lgm,hx];rfl)
   have c0:wr.cell? (ad b9 (o9+m.place*9))=some (.string x.name):=hc 0 _ rfl
   have c1:wr.cell? (ad b9 (o9+m.place*9+1))=some (iv x.lo):=hc 1 _ rfl
   have Ir:wr.cell? (ad b9 (o9+m.place*9+2))=some (iv x.hi):=hc 2 _ rfl
   have c3:wr.cell? (ad b9 (o9+m.place*9+3))=some (iv x.month):=hc 3 _ rfl
   have c4:wr.cell? (ad b9 (o9+m.place*9+4))=some (.string x.on):=hc 4 _ rfl
   have c5:wr.cell? (ad b9 (o9+m.place*9+5))=some (iv x.at_):=hc 5 _ rfl
   have c6:wr.cell? (ad b9 (o9+m.place*9+6))=some (.string x.of):=hc 6 _ rfl
   have c7:wr.cell? (ad b9 (o9+m.place*9+7))=some (iv x.save):=hc 7 _ rfl
   have c8:wr.cell? (ad b9 (o9+m.place*9+8))=some (.string x.letter):=hc 8 _ rfl
   have hF:=jgl (off:=off) hm hx
   have D4:=joy (off:=off) yR.out k hk
   obtain⟨rC,rD⟩:=jk7 (off:=off) yR.out I6.out k hk
   have HF:=hid hF
   obtain⟨⟨X,sv⟩,hX⟩:=qeb (jbv r.rules off (s.take k))
   rw[hX]at HF ai D4 rC rD
   rw[hX]
   simp only at ai D4 rC rD
   clear hF hX hc qw hm hx
   have iD:X.length<=2000:=by omega
   have Kv:(m.place:Int)<(r.rules.length:Int):=by omega
   have Ku:(0:Int)<=(m.place:Int):=by omega
   have Cd:(0:Int)<=(k:Int):=by omega
   have p9:(k:Int)<(s.length:Int):=by omega
   clear D4
   cases hs:(x.of.toList==[115])
   ·cases hw:(x.of.toList==[119])
    ·have HP:Hid (jeb x m.wall off sv=⟨m.wall,x.save,x.letter⟩):=j2k hs hw
     go_wp2_with fail
     go_region_held3 (fun w'=>w'.cell? (ad w.heap.size 0)=some (.slice (some (ad b9 o9)) r.rules.length ca)/\w'.cell? (ad bm (om+k*2+1))=some (iv m.place)/\w'.cell? (ad b9 (o9+m.place*9))=some (.string x.name)/\w'.cell? (ad b9 (o9+m.place*9+1))=some (iv x.lo)/\w'.cell? (ad b9 (o9+m.place*9+2))=some (iv x.hi)/\w'.cell? (ad b9 (o9+m.place*9+3))=some (iv x.month)/\w'.cell? (ad b9 (o9+m.place*9+4))=some (.string x.on)/\w'.cell? (ad b9 (o9+m.place*9+5))=some (iv x.at_)/\w'.cell? (ad b9 (o9+m.place*9+6))=some (.string x.of)/\w'.cell? (ad b9 (o9+m.place*9+7))=some (iv x.save)/\w'.cell? (ad b9 (o9+m.place*9+8))=some (.string x.letter)) (go_keep) (fail)
     go_wp2_with (first
      |(at_builtin;refine wpList_append_own _ rfl _ _ 194 rfl w2.heap.size 199 i0 (.agg #[iv 0,iv 0,.string ⟨#[]⟩]) 3 32 Tryz.underlying194 hi aG aH aF rfl (by decide) _ _ _ rfl (woa (woa ai _) _) ⟨wr.heap.size+1,0,none⟩ 1 1 [iv (m.wall),iv x.save,.string x.letter] rfl rfl ?c1a ?c2a ?c3a ?c4a ?c5a ?_)
      |fail)
     case c1a=>simpa using jah (wr.alloc (.cells #[.string x.name,iv x.lo,iv x.hi,iv x.month,.string x.on,iv x.at_,.string x.of,iv x.save,.string x.letter] 77)) [iv (m.wall),iv x.save,.string x.letter] 199
     case c2a=>intro u hu;simp at hu;rcases hu with rfl|rfl|rfl<;>rfl
     case c3a=>unfold maxLen;omega
     case c4a=>omega
     case c5a=>simp;omega
     intro v' wn ao af _
     have bg:=(aK.alloc (by omega) (.cells #[.string x.name,iv x.lo,iv x.hi,iv x.month,.string x.on,iv x.at_,.string x.of,iv x.save,.string x.letter] 77)).alloc (by simp;omega) (.cells #[iv (m.wall),iv x.save,.string x.letter] 199)
     have df:Bw w2 wn:=(bg.trans ((jab _).mono bg.size)).grown af (by simp;omega) (fun j hj=>(ai.lt j hj).1)
     have HO:Hid (Zw wn w2.heap.size v' (X++[⟨m.wall,x.save,x.letter⟩])):=Zw.add (p:=⟨m.wall,x.save,x.letter⟩) ao
     obtain⟨a7,m7,d7,rfl⟩:=jad ao
     clear af ao ai bg
     go_wp2
     go_roundw
     case rel=>exact⟨k+1,by omega,by go_num,by rw[HF.out],by rw[HF.out];simp only;rw[HP.out];exact HO.out,df⟩
     case measure=>simp[intOf];omega
    ·have HP:Hid (jeb x m.wall off sv=⟨m.wall-off-sv,x.save,x.letter⟩):=j2j hs hw
     go_wp2_with fail
     go_region_held3 (fun w'=>w'.cell? (ad w.heap.size 0)=some (.slice (some (ad b9 o9)) r.rules.length ca)/\w'.cell? (ad bm (om+k*2+1))=some (iv m.place)/\w'.cell? (ad b9 (o9+m.place*9))=some (.string x.name)/\w'.cell? (ad b9 (o9+m.place*9+1))=some (iv x.lo)/\w'.cell? (ad b9 (o9+m.place*9+2))=some (iv x.hi)/\w'.cell? (ad b9 (o9+m.place*9+3))=some (iv x.month)/\w'.cell? (ad b9 (o9+m.place*9+4))=some (.string x.on)/\w'.cell? (ad b9 (o9+m.place*9+5))=some (iv x.at_)/\w'.cell? (ad b9 (o9+m.place*9+6))=some (.string x.of)/\w'.cell? (ad b9 (o9+m.place*9+7))=some (iv x.save)/\w'.cell? (ad b9 (o9+m.place*9+8))=some (.string x.letter)) (go_keep) (fail)
     go_wp2_with (first
      |(at_builtin;refine wpList_append_own _ rfl _ _ 194 rfl w2.heap.size 199 i0 (.agg #[iv 0,iv 0,.string ⟨#[]⟩]) 3 32 Tryz.underlying194 hi aG aH aF rfl (by decide) _ _ _ rfl (woa (woa ai _) _) ⟨wr.heap.size+1,0,none⟩ 1 1 [iv (m.wall-off-sv),iv x.save,.string x.letter] rfl rfl ?c1b ?c2b ?c3b ?c4b ?c5b ?_)
      |fail)
     case c1b=>simpa using jah (wr.alloc (.cells #[.string x.name,iv x.lo,iv x.hi,iv x.month,.string x.on,iv x.at_,.string x.of,iv x.save,.string x.letter] 77)) [iv (m.wall-off-sv),iv x.save,.string x.letter] 199
     case c2b=>intro u hu;simp at hu;rcases hu with rfl|rfl|rfl<;>rfl
     case c3b=>unfold maxLen;omega
     case c4b=>omega
     case c5b=>simp;omega
     intro v' wn ao af _
     have bg:=(aK.alloc (by omega) (.cells #[.string x.name,iv x.lo,iv x.hi,iv x.month,.string x.on,iv x.at_,.string x.of,iv x.save,.string x.letter] 77)).alloc (by simp;omega) (.cells #[iv (m.wall-off-sv),iv x.save,.string x.letter] 199)
     have df:Bw w2 wn:=(bg.trans ((jab _).mono bg.size)).grown af (by simp;omega) (fun j hj=>(ai.lt j hj).1)
     have HO:Hid (Zw wn w2.heap.size v' (X++[⟨m.wall-off-sv,x.save,x.letter⟩])):=Zw.add (p:=⟨m.wall-off-sv,x.save,x.letter⟩) ao
     obtain⟨a7,m7,d7,rfl⟩:=jad ao
     clear af ao ai bg
     go_wp2
     go_roundw
     case rel=>exact⟨k+1,by omega,by go_num,by rw[HF.out],by rw[HF.out];simp only;rw[HP.out];exact HO.out,df⟩
     case measure=>simp[intOf];omega
   ·have HP:Hid (jeb x m.wall off sv=⟨m.wall-off,x.save,x.letter⟩):=j2l hs
    go_wp2_with fail
    go_region_held3 (fun w'=>w'.cell? (ad w.heap.size 0)=some (.slice (some (ad b9 o9)) r.rules.length ca)/\w'.cell? (ad bm (om+k*2+1))=some (iv m.place)/\w'.cell? (ad b9 (o9+m.place*9))=some (.string x.name)/\w'.cell? (ad b9 (o9+m.place*9+1))=some (iv x.lo)/\w'.cell? (ad b9 (o9+m.place*9+2))=some (iv x.hi)/\w'.cell? (ad b9 (o9+m.place*9+3))=some (iv x.month)/\w'.cell? (ad b9 (o9+m.place*9+4))=some (.string x.on)/\w'.cell? (ad b9 (o9+m.place*9+5))=some (iv x.at_)/\w'.cell? (ad b9 (o9+m.place*9+6))=some (.string x.of)/\w'.cell? (ad b9 (o9+m.place*9+7))=some (iv x.save)/\w'.cell? (ad b9 (o9+m.place*9+8))=some (.string x.letter)) (go_keep) (fail)
    go_wp2_with (first
     |(at_builtin;refine wpList_append_own _ rfl _ _ 194 rfl w2.heap.size 199 i0 (.agg #[iv 0,iv 0,.string ⟨#[]⟩]) 3 32 Tryz.underlying194 hi aG aH aF rfl (by decide) _ _ _ rfl (woa (woa ai _) _) ⟨wr.heap.size+1,0,none⟩ 1 1 [iv (m.wall-off),iv x.save,.string x.letter] rfl rfl ?c1c ?c2c ?c3c ?c4c ?c5c ?_)
     |fail)
    case c1c=>simpa using jah (wr.alloc (.cells #[.string x.name,iv x.lo,iv x.hi,iv x.month,.string x.on,iv x.at_,.string x.of,iv x.save,.string x.letter] 77)) [iv (m.wall-off),iv x.save,.string x.letter] 199
    case c2c=>intro u hu;simp at hu;rcases hu with rfl|rfl|rfl<;>rfl
    case c3c=>unfold maxLen;omega
    case c4c=>omega
    case c5c=>simp;omega
    intro v' wn ao af _
    have bg:=(aK.alloc (by omega) (.cells #[.string x.name,iv x.lo,iv x.hi,iv x.month,.string x.on,iv x.at_,.string x.of,iv x.save,.string x.letter] 77)).alloc (by simp;omega) (.cells #[iv (m.wall-off),iv x.save,.string x.letter] 199)
    have df:Bw w2 wn:=(bg.trans ((jab _).mono bg.size)).grown af (by simp;omega) (fun j hj=>(ai.lt j hj).1)
    have HO:Hid (Zw wn w2.heap.size v' (X++[⟨m.wall-off,x.save,x.letter⟩])):=Zw.add (p:=⟨m.wall-off,x.save,x.letter⟩) ao
    obtain⟨a7,m7,d7,rfl⟩:=jad ao
    clear af ao ai bg
    go_wp2
    go_roundw
    case rel=>exact⟨k+1,by omega,by go_num,by rw[HF.out],by rw[HF.out];simp only;rw[HP.out];exact HO.out,df⟩
    case measure=>simp[intOf];omega
  ·obtain rfl:k=s.length:=by omega
   rw[List.take_length]at ai
   have HH:Hid (jxz r nm off (jbv r.rules off s).1 ok):=⟨s,lh.out,rfl⟩
   rw[List.take_length]
   go_wp2
   exact bpr (v:=.tuple #[.slice a6 m6 d6,.bool ok]) (by simp[results,Tryz.results125,go_sem]) rfl ⟨_,_,ok,rfl,jaj ai an.size,HH.out,eM⟩
theorem jid{r:RelD}(h:relB r=true):r.rules.length<=40/\∀x∈r.rules,jaw x=true:=by
 unfold relB at h
 simp only[bat,decide_eq_true_eq,List.all_eq_true]at h
 exact⟨h.1.1,h.2.1⟩
