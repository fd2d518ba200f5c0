/- Packed. -/
import Derived.Test.YtofdpfpdocpbpaaGreatDoorSCd
import Derived.Test.YtofdpfpdocpbpaaGreatDoorSBd
import Derived.Maps.RangeWalk
import Derived.Test.YtofdpfpdocpbpaaGreatDoorTbSd
set_option maxRecDepth 100000
set_option maxHeartbeats 20000000
set_option linter.unusedSimpArgs false
namespace Go.Proofs.YtofdpfpdocpbpaaGreatDoor
section
open Go.RowKit Go.ChangeMaps Go.MapKept
theorem jag{w w':World}(hb:Below w.heap.size w w'):w.grownBy w' none:=⟨hb.os,hb.tape,hb.output,hb.size,fun k hk _=>hb.block k hk⟩
structure Jc(f:Int->Option EventD)(L:List EventD):Prop where
 id:∀i x,f i=some x->x.id=i
 mem:∀e,e∈L↔f e.id=some e
theorem jpu{D:DataW EventD}{f:Int->Option EventD}(h:MapV D f){x:Int}{c:EventD}(hat:∀z,D.atKey (.int .i64 x) z=.held c):f x=some c:=by
 cases hf:f x with
 |none=>
  have:=(h x c).2 hf
  rw[Maps.has_true_of_atKey hat]at this
  cases this
 |some e=>
  have:=((h x e).1 hf).2 (.held c)
  rw[hat]at this
  injection this with this
  rw[this]
theorem jgs{D:DataW EventD}{f:Int->Option EventD}(h:MapV D f){x:Int}{e:EventD}(hf:f x=some e):Maps.has D (.int .i64 x)=true:=((h x e).1 hf).1
theorem jfw{left:Lit->Bool}{x y:Int}(h:(left (.int .i64 y)&& !Lit.sameKey (.int .i64 y) (.int .i64 x))=false):left (.int .i64 y)=false\/y=x:=by
 cases hl:left (.int .i64 y)
 ·exact .inl rfl
 ·rw[hl]at h
  by_cases e:y=x
  ·exact .inr e
  ·rw[Maps.sameKey_ne (fun h=>e (by simp only[Lit.int.injEq,true_and]at h;exact h))]at h
   cases h
theorem jeh(f:Int->Option EventD)(L:List EventD)(b n:Nat)(r:RelD)(v:Value)(w:World)(hEnv:Zm w)(hM:Zg w b n f)(hL:Jc f L)(hv:Zi w v r)(ok:Zr r)(hr:relB r=true):
  Calls Tryz.prog 53 #[.map (some b),v] w fun e w'=>e=.returned (.bool (L.all fun x=>inR r x.zone))/\Below w.heap.size w w':=by
 obtain⟨a,b2,c,ca,cb,cc,rfl,_,_,_⟩:=hv.form
 have hB0:=qal w (.cells #[.slice a r.rules.length ca,.slice b2 r.zones.length cb,.slice c r.links.length cc] 56)
 have hM0:=hM.alloc (.cells #[.slice a r.rules.length ca,.slice b2 r.zones.length cb,.slice c r.links.length cc] 56)
 have hbl:=hM.lt
 obtain⟨D,hown,hD⟩:=hM0.own
 have hZ:=fun nm w hE h=>jff r (.agg #[.slice a r.rules.length ca,.slice b2 r.zones.length cb,.slice c r.links.length cc]) nm w hE h ok hr
 obtain⟨s0,s1,s2⟩:(fun z:World=>z.cell? ⟨w.heap.size,0,none⟩=some (.slice a r.rules.length ca)/\z.cell? ⟨w.heap.size,1,none⟩=some (.slice b2 r.zones.length cb)/\z.cell? ⟨w.heap.size,2,none⟩=some (.slice c r.links.length cc)) (w.alloc (.cells #[.slice a r.rules.length ca,.slice b2 r.zones.length cb,.slice c r.links.length cc] 56)):=by simp[go_sem]
 have hv0:=hv.below hB0
 have hE0:=hEnv.of_below hB0
 have HT:=hid hL
 have HD:=hid hD
 clear hM0 hM hL hv hEnv hD
 go_enter Tryz.func53,Tryz.ntmps53
 have hs0:(w.alloc (.cells #[.slice a r.rules.length ca,.slice b2 r.zones.length cb,.slice c r.links.length cc] 56)).heap.size=w.heap.size+1:=by simp
 go_wp2_with (first
  |(at_range;refine wpList_range_own _ rfl _ 75 rfl 2 99 (Maps.int_keyed keyT) mapT jcb b n D rfl hown ?_;intro w0 hrg0 hg0 hz0)
  |go_in)
 go_frame
 generalize (w.alloc (.cells #[.slice a r.rules.length ca,.slice b2 r.zones.length cb,.slice c r.links.length cc] 56))=wb at *
 go_loopw [6] (fun _ wr=>∃(left:Lit->Bool) (cnt:Nat),wr.ranges Tryz.prog 2 jcb b wb.heap.size n D left cnt/\Hid (∀x e,f x=some e->left (.int .i64 x)=false->inR r e.zone=true)/\Below wb.heap.size wb wr) (fun _ wr=>wr.rangeLeft b wb.heap.size)
 case atStart=>exact⟨_,_,hrg0,fun x e hf hl=>by(rw[jgs HD.out hf]at hl;cases hl),(Below.refl _ _).grown hg0 (by omega) (fun k hk=>by cases hk)⟩
 case round=>
  obtain⟨wa,hwa⟩:∃x:World,x=wr:=⟨_,rfl⟩
  subst hwa
  obtain⟨left,cnt,hrg,HK,hBr⟩:=hrel
  clear hrg0 hg0 hz0
  have hBx:=hB0.trans (hBr.mono (by omega))
  have hsz:=hBr.size
  have HBr:=hid hBr
  have HS:=hid hs0
  clear hs0
  go_wp2_with (first
   |(at_next;refine wpList_next_ranges _ rfl _ rfl 2 (Maps.int_keyed keyT) jcb (Value.int .i64) (fun c:EventD=>Value.agg #[.int .i64 c.id,.string c.name,.string c.zone,.int .i64 c.wall,.int .i64 c.gap,.int .i64 c.fold]) (fun key kl hkey=>by(obtain⟨x,rfl,_⟩:=Maps.keyOf_int_inv keyT hkey;exact⟨x,rfl⟩)) (fun v y hv=>by(obtain⟨c,rfl,_⟩:=jb3 hv;exact⟨c,rfl⟩)) b wb.heap.size n D left cnt rfl hrg ?_ ?_)
   |go_in)
  ·intro _ hl0
   have HF:Hid (L.all (fun x=>inR r x.zone)=true):=List.all_eq_true.mpr fun e he=>HK.out e.id e ((HT.out.mem e).mp he) (hl0 _)
   go_wp2
   go_ret
   exact⟨ret_bool HF.out.symm,hBx⟩
  ·intro x c kl y ys w1 cnt1 hkey hlk hv1 hat hrg1 hlt hg1 hs1 hen
   have HF:Hid (f x=some c/\c.id=x/\kl=.int .i64 x):=by
    obtain⟨x',ex,rfl,_⟩:=Maps.keyOf_int_inv keyT hkey
    cases ex
    obtain⟨c',ec,ez⟩:=jb3 hv1
    simp only[Prod.mk.injEq]at ez
    obtain⟨rfl,_⟩:=ez
    have:c'=c:=by cases c;cases c';simp only[EventD.v,Value.agg.injEq]at ec;simp_all
    subst this
    have h1:=jpu HD.out hat
    exact⟨h1,HT.out.id _ _ h1,rfl⟩
   have hB1:Below wb.heap.size wb w1:=HBr.out.grown hg1 hsz (fun k hk=>by(cases hk;exact Nat.le_refl _))
   have hB2:=hB1.alloc hB1.size (.cells #[.int .i64 c.id,.string c.name,.string c.zone,.int .i64 c.wall,.int .i64 c.gap,.int .i64 c.fold] 99)
   have t0:=jab hB2 s0
   have t1:=jab hB2 s1
   have t2:=jab hB2 s2
   have hZc:=hZ c.zone _ (hE0.of_below hB2) (hv0.below hB2)
   have hrg2:=hrg1.alloc (.cells #[.int .i64 c.id,.string c.name,.string c.zone,.int .i64 c.wall,.int .i64 c.gap,.int .i64 c.fold] 99)
   clear hv1 hat hkey hg1 hZ
   cases hin:inR r c.zone
   ·have HA:Hid (L.all (fun x=>inR r x.zone)=false):=List.all_eq_false.mpr ⟨c,(HT.out.mem c).mpr (by rw[HF.out.2.1];exact HF.out.1),by rw[hin];simp⟩
    rw[hin]at hZc
    clear hin
    go_wp2_with fail
    refine hZc.mono ?_
    rintro e w2 ⟨rfl,hb2⟩
    have hB3:=hB0.trans ((qtr hB2 hb2).mono (by rw[HS.out];omega))
    go_wp2
    go_ret
    exact⟨ret_bool HA.out.symm,hB3⟩
   ·have HN:Hid (∀z e,f z=some e->(left (.int .i64 z)&& !Lit.sameKey (.int .i64 z) kl)=false->inR r e.zone=true):=by
     intro z e hf hl
     rw[HF.out.2.2]at hl
     rcases jfw hl with h|rfl
     ·exact HK.out z e hf h
     ·rw[HF.out.1]at hf;cases hf;exact hin
    rw[hin]at hZc
    clear hin
    go_wp2_with fail
    refine hZc.mono ?_
    rintro e w2 ⟨rfl,hb2⟩
    have hB3:=qtr hB2 hb2
    have hrg3:=hrg2.kept (jag hb2) (by simp) (by simp)
    have HB3:=hid hB3
    go_wp2
    go_roundw
    case rel=>exact⟨_,cnt1,hrg3,HN,HB3.out⟩
    case measure=>rw[hrg3.left_eq,hrg.left_eq];exact hlt
end
section
open Go.RowKit Go.ChangeMaps Go.MapKept
theorem jbf(l:List VersionD):Jc (jbk l) (jai l):=by
 refine⟨fun i x h=>?_,fun e=>jxh⟩
 unfold jbk at h
 cases hk:jiy l i with
 |none=>rw[hk]at h;cases h
 |some k=>
  obtain⟨_,⟨v,hv,hiD⟩,_⟩:=jgt hk
  rw[hk]at h
  simp only[hv]at h
  split at h
  ·cases h
  ·cases h;exact hiD
theorem j1b{w:World}{b n:Nat}{D:DataW EventD}(h:w.ownsMap Tryz.prog 2 jcb b n D):∃es,D=.map es/\es.Pairwise (fun p q=>p.1≠q.1)/\∀p∈es,(∃x,p.1=.int .i64 x)/\Maps.has D p.1=true:=by
 obtain⟨es0,hD,hp,hk⟩:=h.entries (Maps.int_keyed keyT)
 refine⟨es0,hD,hp,fun p hpm=>⟨?_,?_⟩⟩
 ·obtain⟨es,clock,_,F,_,hD2⟩:=h
  rw[hD]at hD2
  injection hD2 with hD2
  rw[hD2]at hpm
  obtain⟨x,hx,rfl⟩:=List.mem_map.1 (mem_sorted.1 hpm)
  obtain⟨y,hy⟩:=F.reads x hx
  rw[WideElems.rg_of hy]
  obtain⟨z,_,h2,_⟩:=Maps.keyOf_int_inv keyT (WideElems.rd_key hy)
  exact⟨z,h2⟩
 ·rw[hD,Maps.has_eq]
  exact List.any_eq_true.2 ⟨p,hpm,WideAt.sameKey_self (hk p hpm)⟩
theorem jdo{w:World}{b n:Nat}{f:Int->Option EventD}{L:List EventD}{D:DataW EventD}(h:w.ownsMap Tryz.prog 2 jcb b n D)(hV:MapV D f)(hT:Jc f L)(hL:L.Pairwise fun x y=>x.id<y.id):Maps.size D=L.length:=by
 obtain⟨es,hD,hp,hk⟩:=j1b h
 have d1:(es.map fun p=>p.1).Nodup:=List.pairwise_map.mpr hp
 have d2:(L.map fun e=>Lit.int .i64 e.id).Nodup:=List.pairwise_map.mpr (hL.imp fun {x y} hxy h=>by simp only[Lit.int.injEq,true_and]at h;omega)
 have hperm:(es.map fun p=>p.1).Perm (L.map fun e=>Lit.int .i64 e.id):=(List.perm_ext_iff_of_nodup d1 d2).mpr fun kl=>by
  constructor
  ·intro hm
   obtain⟨p,hpm,rfl⟩:=List.mem_map.mp hm
   obtain⟨⟨x,hx⟩,hh⟩:=hk p hpm
   rw[hx]at hh ⊢
   cases hf:f x with
   |none=>rw[(hV x ⟨0,⟨#[]⟩,⟨#[]⟩,0,0,0⟩).2 hf]at hh;cases hh
   |some e=>
    have hi:=hT.id x e hf
    exact List.mem_map.mpr ⟨e,(hT.mem e).mpr (by rw[hi];exact hf),by rw[hi]⟩
  ·intro hm
   obtain⟨e,he,rfl⟩:=List.mem_map.mp hm
   have hh:=((hV e.id e).1 ((hT.mem e).mp he)).1
   rw[hD,Maps.has_eq]at hh
   obtain⟨p,hpm,hpk⟩:=List.any_eq_true.1 hh
   exact List.mem_map.mpr ⟨p,hpm,WideAt.sameKey_eq hpk⟩
 have:=hperm.length_eq
 rw[List.length_map,List.length_map]at this
 rw[hD,Maps.size_eq,this]
end
section
open Go.RowKit Go.ChangeMaps Go.MapKept
def jxj(s:Za)(L:List EventD):Bool:=decide (L.length<=30)&&((L.all fun x=>inR s.now x.zone)&&(decide (s.cur=0) || (L.all fun x=>inR s.was x.zone)))
theorem jkk(s:Za)(v:Value)(F:Int->Option EventD)(L:List EventD)(mb mn:Nat)(w:World)(hE:Zm w)(hv:StAt w v s)(ok:StoreOk s)(hM:Zg w mb mn F)(hT:Jc F L)(hL:L.Pairwise fun x y=>x.id<y.id)(hmn:mn<=1048576)(hr1:relB s.now=true)(hr2:relB s.was=true):
  Calls Tryz.prog 36 #[v,.map (some mb)] w fun e w'=>e=.returned (.bool (jxj s L))/\Below w.heap.size w w':=by
 obtain⟨a,b,c,d,e,f,va,ia,ca,cb,cc,cd,ce,cf,cv,ci,rfl,hN,hW,_,_,_,_⟩:=hv.form
 have hB0:=qal w (.cells #[.int .i64 s.tx,.slice a s.now.rules.length ca,.slice b s.now.zones.length cb,.slice c s.now.links.length cc,.slice d s.was.rules.length cd,.slice e s.was.zones.length ce,.slice f s.was.links.length cf,.int .i64 s.cur,.slice va s.vs.length cv,.slice ia s.ix.length ci] 60)
 have hF:=fun w hE hM h=>jeh F L mb mn s.now (.agg #[.slice a s.now.rules.length ca,.slice b s.now.zones.length cb,.slice c s.now.links.length cc]) w hE hM hT h ok.now hr1
 have hG:=fun w hE hM h=>jeh F L mb mn s.was (.agg #[.slice d s.was.rules.length cd,.slice e s.was.zones.length ce,.slice f s.was.links.length cf]) w hE hM hT h ok.was hr2
 have hN0:=hN.below hB0
 have hW0:=hW.below hB0
 have hE0:=hE.of_below hB0
 have hM0:=hM.below hB0
 have hlen:∀ty,(Builtin.len_ #[75] ty #[.map (some mb)]).run Tryz.prog (w.alloc (.cells #[.int .i64 s.tx,.slice a s.now.rules.length ca,.slice b s.now.zones.length cb,.slice c s.now.links.length cc,.slice d s.was.rules.length cd,.slice e s.was.zones.length ce,.slice f s.was.links.length cf,.int .i64 s.cur,.slice va s.vs.length cv,.slice ia s.ix.length ci] 60))=.ok (.int .i64 L.length) (w.alloc (.cells #[.int .i64 s.tx,.slice a s.now.rules.length ca,.slice b s.now.zones.length cb,.slice c s.now.links.length cc,.slice d s.was.rules.length cd,.slice e s.was.zones.length ce,.slice f s.was.links.length cf,.int .i64 s.cur,.slice va s.vs.length cv,.slice ia s.ix.length ci] 60)):=fun ty=>by
  obtain⟨D,h1,h2⟩:=hM0.own
  rw[<- jdo h1 h2 hT hL]
  exact h1.len mapT ty
 have hll:L.length<=1048576:=by
  obtain⟨D,h1,h2⟩:=hM0.own
  have:=h1.size_le
  rw[jdo h1 h2 hT hL]at this
  omega
 unfold jxj
 clear hv ok hN hW hE hr1 hr2 hM hT hL hmn
 generalize (L.all fun x=>inR s.now x.zone)=pb at *
 generalize (L.all fun x=>inR s.was x.zone)=qb at *
 generalize L.length=ln at *
 obtain⟨tx,now,was,cur,vs,ix⟩:=s
 dsimp only at *
 by_cases h30:ln<=30
 ·have h31:(ln:Int)<=30:=by omega
  rw[decide_eq_true h30]
  cases pb
  ·go_enter Tryz.func36,Tryz.ntmps36
   go_wp2_with fail
   refine(hF _ hE0 hM0 hN0).mono ?_
   rintro e' w1 ⟨rfl,hb1⟩
   go_wp2
   go_ret
   exact⟨rfl,hB0.trans (hb1.mono (by simp))⟩
  by_cases hc0:cur=0
  ·subst hc0
   go_enter Tryz.func36,Tryz.ntmps36
   go_wp2_with fail
   refine(hF _ hE0 hM0 hN0).mono ?_
   rintro e' w1 ⟨rfl,hb1⟩
   have x7:w1.cell? ⟨w.heap.size,7,none⟩=some (.int .i64 0):=jab hb1 (by simp[go_sem])
   go_wp2
   go_ret
   exact⟨rfl,hB0.trans (hb1.mono (by simp))⟩
  rw[decide_eq_false hc0]
  have hc1:(cur==0)=false:=by simp[hc0]
  go_enter Tryz.func36,Tryz.ntmps36
  go_wp2_with fail
  refine(hF _ hE0 hM0 hN0).mono ?_
  rintro e' w1 ⟨rfl,hb1⟩
  have x7:w1.cell? ⟨w.heap.size,7,none⟩=some (.int .i64 cur):=jab hb1 (by simp[go_sem])
  have x4:w1.cell? ⟨w.heap.size,4,none⟩=some (.slice d was.rules.length cd):=jab hb1 (by simp[go_sem])
  have x5:w1.cell? ⟨w.heap.size,5,none⟩=some (.slice e was.zones.length ce):=jab hb1 (by simp[go_sem])
  have x6:w1.cell? ⟨w.heap.size,6,none⟩=some (.slice f was.links.length cf):=jab hb1 (by simp[go_sem])
  have hW1:=hW0.below hb1
  have hE1:=hE0.of_below hb1
  have hM1:=hM0.below hb1
  have hB1:=hB0.trans (hb1.mono (by simp))
  clear hB0 hb1 hW0 hN0 hE0 hM0 hlen
  go_wp2_with fail
  refine(hG _ hE1 hM1 hW1).mono ?_
  rintro e' w2 ⟨rfl,hb2⟩
  have hB2:=qtr hB1 hb2
  go_wp2
  go_ret
  exact⟨ret_bool (by simp),hB2⟩
 ·have h31:¬(ln:Int)<=30:=by omega
  rw[decide_eq_false h30]
  go_enter Tryz.func36,Tryz.ntmps36
  go_wp2
  go_ret
  exact⟨rfl,hB0⟩
end
section
open Go.RowKit Go.ChangeMaps Go.MapKept Go.WideMaps
structure TOut where
 a:Option Addr
 n:Nat
 c:Nat
 code:Int
def TOut.v(t:TOut):Value:=.agg #[.slice t.a t.n t.c,.int .i64 t.code]
def jrf:Value->Option (DataW TOut × List MemPlace)
 |.agg ⟨[.slice a n c,.int .i64 k]⟩=>some (.held ⟨a,n,c,k⟩,[])
 |_=>none
theorem jm5(t:TOut):jrf t.v=some (.held t,[]):=by cases t;rfl
theorem jtc{v:Value}{z:DataW TOut × List MemPlace}(h:jrf v=some z):∃t:TOut,v=t.v/\z=(.held t,[]):=by
 unfold jrf at h
 split at h
 ·cases h;exact⟨_,rfl,rfl⟩
 ·cases h
structure TabE(w:World)(t:TOut)(x:Int × List TurnD):Prop where
 code:t.code=x.1
 n:t.n=x.2.length
 seq:Zd w t.a 4 (x.2.map TurnD.cs)
 typ:∀b o,t.a=some ⟨b,o,none⟩->∃cs,w.heap[b]? =some (.cells cs 304 (0,0))
theorem jl3{w:World}{b:Nat}{es:Array MapEntry}{clock:Nat}(h:w.heap[b]? =some (.map es clock))(o:Nat):w.cell? ⟨b,o,none⟩=none:=by
 simp[World.cell?,h]
theorem j21{u s:ByteArray}(h:u.data.toList=s.data.toList):u=s:=by
 have h2:=Array.toList_inj.mp h
 cases u;cases s
 simp only at h2
 rw[h2]
theorem TabE.grown{w w':World}{row:Option Nat}{t:TOut}{x:Int × List TurnD}(h:TabE w t x)(hg:w.grownBy w' row)(hne:∀b cs,w.heap[b]? =some (.cells cs 304 (0,0))->some b≠row):TabE w' t x:=by
 refine⟨h.code,h.n,?_,fun b o hb=>?_⟩
 ·rcases h.seq with h0|⟨b,o,ha,hc⟩
  ·exact .inl h0
  ·obtain⟨cs,hcs⟩:=h.typ b o ha
   exact .inr ⟨b,o,ha,fun i j r c hr hj=>hg.cell (hc i j r c hr hj) (hne b cs hcs)⟩
 ·obtain⟨cs,hcs⟩:=h.typ b o hb
  exact⟨cs,(hg.block b (Array.getElem?_eq_some_iff.1 hcs).1 (hne b cs hcs)).trans hcs⟩
theorem TabE.below{w w':World}{t:TOut}{x:Int × List TurnD}(h:TabE w t x)(hb:Below w.heap.size w w'):TabE w' t x:=h.grown (jag hb) (fun _ _ _=>by simp)
structure Ze(w:World)(b n:Nat)(r:RelD):Prop where
 own:∃D,w.ownsMap Tryz.prog 9 jrf b n D/\∀s:ByteArray,Maps.has D (.string s.data.toList)=true->∃t,(∀z,D.atKey (.string s.data.toList) z=.held t)/\TabE w t (tabD r s)
theorem j8j:Tryz.prog.underlying 80=some (.map 9 216):=by kernel_rfl
theorem keyS:Tryz.prog.underlying 9=some .string:=by kernel_rfl
theorem ju3(w:World):(zeroValue 216).run Tryz.prog w=.ok (TOut.v ⟨none,0,0,0⟩) w:=by kernel_rfl
theorem Ze.made(w:World)(r:RelD):Ze (w.alloc (.map #[] 0)) w.heap.size 0 r:=⟨_,World.ownsMap_made w _ _ _,fun s h=>by cases h⟩
theorem Ze.lt{w:World}{b n:Nat}{r:RelD}(h:Ze w b n r):b<w.heap.size:=by
 obtain⟨D,h1,_⟩:=h.own
 exact h1.lt
theorem Ze.blk{w:World}{b n:Nat}{r:RelD}(h:Ze w b n r):∀b' cs,w.heap[b']? =some (.cells cs 304 (0,0))->some b'≠some b:=by
 obtain⟨D,⟨es,clock,hb,_⟩,_⟩:=h.own
 intro b' cs h1 h2
 injection h2 with h2
 subst h2
 rw[hb]at h1
 cases h1
theorem Ze.grown{w w':World}{b n g:Nat}{r:RelD}(h:Ze w b n r)(hg:w.grownBy w' (some g))(hgb:b≠g)(hne:∀cs,w.heap[g]? ≠some (.cells cs 304 (0,0))):Ze w' b n r:=by
 obtain⟨D,h1,h2⟩:=h.own
 refine⟨D,h1.kept hg (by simpa using hgb),fun s hs=>?_⟩
 obtain⟨t,ht,hE⟩:=h2 s hs
 exact⟨t,ht,hE.grown hg (fun b' cs hc e=>by injection e with e;subst e;exact hne cs hc)⟩
theorem Ze.cell{w:World}{b n:Nat}{r:RelD}(h:Ze w b n r)(o:Nat):w.cell? ⟨b,o,none⟩=none:=by
 obtain⟨D,⟨es,clock,hb,_⟩,_⟩:=h.own
 exact jl3 hb o
theorem Ze.below{w w':World}{b n:Nat}{r:RelD}(h:Ze w b n r)(hb:Below w.heap.size w w'):Ze w' b n r:=by
 obtain⟨D,h1,h2⟩:=h.own
 refine⟨D,h1.kept (jag hb) (by simp),fun s hs=>?_⟩
 obtain⟨t,ht,hE⟩:=h2 s hs
 exact⟨t,ht,hE.below hb⟩
end
section
open Go.RowKit Go.ChangeMaps Go.MapKept Go.WideMaps
theorem Ze.look2{w w2:World}{b n:Nat}{r:RelD}(h:Ze w b n r)(hb:Below w.heap.size w w2){s:ByteArray}(hs:s.size<=maxLen):∃(t:TOut) (z:Bool),(Instr.lookup 80 (.map (some b)) (.string s) true).run Tryz.prog w2=.ok (.tuple #[t.v,.bool z]) w2/\(z=true->TabE w t (tabD r s)):=by
 obtain⟨D,h1,h2⟩:=h.own
 obtain⟨v,ps,hr,hv⟩:=(h1.kept (jag hb) (by simp)).look_ok (Maps.string_keyed keyS) j8j (ju3 w2) (jm5 _) (keyOf_string_mk keyS hs)
 obtain⟨t,rfl,he⟩:=jtc hv
 refine⟨t,_,hr,fun hz=>?_⟩
 obtain⟨t',ht,hE⟩:=h2 s hz
 rw[ht]at he
 have h3:=congrArg Prod.fst he
 simp only[DataW.held.injEq]at h3
 rw[<- h3]
 exact hE
theorem Ze.store2{w W5:World}{b n:Nat}{r:RelD}(h:Ze w b n r)(hn:n<maxLen)(hb:Below w.heap.size w W5){s:ByteArray}(hs:s.size<=maxLen)(t:TOut):∃W6,(Instr.mapUpdate 80 (.map (some b)) (.string s) t.v).run Tryz.prog W5=.ok () W6/\W5.mapTurned W6 b/\∀W7 g,W6.grownBy W7 (some g)->g≠b->w.grownBy W7 (some b)->TabE W7 t (tabD r s)->Ze W7 b (n+1) r:=by
 have hblk:=h.blk
 obtain⟨D,h1,h2⟩:=h.own
 have hM:=h1.isMap
 have hKL:WideAt.IsKeyLit (.string s.data.toList):=trivial
 obtain⟨W6,hr,ho,ht⟩:=(h1.kept (jag hb) (by simp)).store (Maps.string_keyed keyS) j8j hn (keyOf_string_mk keyS hs) (jm5 t)
 refine⟨W6,hr,ht,fun W7 g hg hgb hw hT=>⟨_,ho.kept hg (by simp;exact fun e=>hgb e.symm),fun u hu=>?_⟩⟩
 by_cases e:u=s
 ·subst e
  exact⟨t,fun z=>Maps.atKey_put_same hM hKL _ _,hT⟩
 ·have hk:Lit.string u.data.toList≠Lit.string s.data.toList:=fun h=>e (by
   simp only[Lit.string.injEq]at h
   exact j21 h)
  rw[Maps.has_put_other hk]at hu
  obtain⟨t2,q1,q2⟩:=h2 u hu
  exact⟨t2,fun z=>by rw[Maps.atKey_put_other hk];exact q1 z,q2.grown hw hblk⟩
theorem ja1(w:World)(g o:Nat)(u:Value):w.grownBy (w.setCell ⟨g,o,none⟩ u) (some g):=⟨rfl,rfl,rfl,by simp,fun k _ hk=>Below.heap_setCell _ _ _ k (fun e=>hk (by rw[e]))⟩
theorem ja2(w:World)(g:Nat)(u v:Value):w.grownBy ((w.setCell ⟨g,0,none⟩ u).setCell ⟨g,1,none⟩ v) (some g):=(ja1 w g 0 u).andThen (ja1 _ g 1 v) (fun _ h=>.inr h)
theorem j44{W:World}{base m d:Nat}{a:Option Addr}{x:Int × List TurnD}(h:Zn W base (.slice a m d) x.2):TabE W ⟨a,m,d,x.1⟩ x:=by
 have ht:∀b o,a=some ⟨b,o,none⟩->∃cs,W.heap[b]? =some (.cells cs 304 (0,0)):=fun b o hb=>by
  rcases h.2 with⟨h0,_⟩|⟨g,cap,cur,h1,_,hh,_⟩
  ·injection h0 with h0 _ _;rw[hb]at h0;cases h0
  ·injection h1 with h1 _ _;rw[hb]at h1;injection h1 with h1;injection h1 with h1;subst h1;exact⟨cur,hh⟩
 unfold Zn at h
 have hlen:(x.2.map TurnD.cs).length=x.2.length:=by simp
 rw[<- hlen]at h
 obtain⟨a',cap,hv,hs,_⟩:=jav h (fun r hr=>by obtain⟨y,_,rfl⟩:=List.mem_map.mp hr;rfl)
 injection hv with h1 h2 h3
 subst h1
 exact⟨rfl,by rw[<- hlen];exact h2,hs,ht⟩
structure TblP(r:RelD)(nm:ByteArray)(mb mn:Nat)(w:World)(e:Ending)(w':World):Prop where
 ex:∃t:TOut,e=.returned t.v/\TabE w' t (tabD r (jat r nm).name)
 cache:Ze w' mb (mn+1) r
 grown:w.grownBy w' (some mb)
theorem js1{r:RelD}{nm:ByteArray}(h:relB r=true):(jat r nm).name.size<=20:=by
 cases hx:jeb r.zones (jc4 r.links nm)with
 |none=>rw[jgk hx];exact Nat.zero_le _
 |some i=>
  have hi:i<r.zones.length:=by unfold jeb at hx;exact(List.findIdx?_eq_some_iff_getElem.mp hx).1
  rw[jgj h hx (List.getElem?_eq_getElem hi)]
  exact(jl1 (jgn h (List.getElem_mem hi)).2).2.1
theorem Ze.mono{w:World}{b n n':Nat}{r:RelD}(h:Ze w b n r)(hn:n<=n'):Ze w b n' r:=by
 obtain⟨D,h1,h2⟩:=h.own
 exact⟨D,h1.mono hn,h2⟩
theorem jtz(r:RelD)(a b c:Option Addr)(ca cb cc mb mn:Nat)(nm:ByteArray)(w:World)(hE:Zm w)(hv:Zi w (.agg #[.slice a r.rules.length ca,.slice b r.zones.length cb,.slice c r.links.length cc]) r)(ok:Zr r)(hr:relB r=true)(hC:Ze w mb mn r)(hmn:mn<=1048576):
  Calls Tryz.prog 130 #[.agg #[.slice a r.rules.length ca,.slice b r.zones.length cb,.slice c r.links.length cc,.map (some mb)],.string nm] w (TblP r nm mb mn w):=by
 have hBe:∀x y,Below w.heap.size w ((w.alloc x).alloc y):=fun x y=>(qal _ x).alloc (by simp) y
 have hB1:=hBe (.cells #[.slice a r.rules.length ca,.slice b r.zones.length cb,.slice c r.links.length cc,.map (some mb)] 82) (.cells #[.slice none 0 0,.int .i64 0] 216)
 have hZ:=fun w hE h=>jfg r (.agg #[.slice a r.rules.length ca,.slice b r.zones.length cb,.slice c r.links.length cc]) nm w hE h ok.ok ok.sm ok.on
 have hZn:=js1 (nm:=nm) hr
 have hT:=fun w hE h=>jon r (.agg #[.slice a r.rules.length ca,.slice b r.zones.length cb,.slice c r.links.length cc]) (jat r nm).name w hE h ok.ok ok.sm ok.on (by unfold maxLen;omega)
 have hmb:=hC.lt
 obtain⟨zn,hzn⟩:∃x,(jat r nm).name=x:=⟨_,rfl⟩
 have HX:=hid hzn
 rw[hzn]at hZ hZn hT
 clear hzn hBe
 have hv1:=hv.below hB1
 have hE1:=hE.of_below hB1
 have HO:=hid ok
 obtain⟨x0,x1,x2,x3,r0,r1,f0,f1⟩:(fun z:World=>z.cell? ⟨w.heap.size,0,none⟩=some (.slice a r.rules.length ca)/\z.cell? ⟨w.heap.size,1,none⟩=some (.slice b r.zones.length cb)/\z.cell? ⟨w.heap.size,2,none⟩=some (.slice c r.links.length cc)/\z.cell? ⟨w.heap.size,3,none⟩=some (.map (some mb))/\z.cell? ⟨w.heap.size+1,0,none⟩=some (.slice none 0 0)/\z.cell? ⟨w.heap.size+1,1,none⟩=some (.int .i64 0)/\z.frozen? ⟨w.heap.size+1,0,none⟩=false/\z.frozen? ⟨w.heap.size+1,1,none⟩=false) ((w.alloc (.cells #[.slice a r.rules.length ca,.slice b r.zones.length cb,.slice c r.links.length cc,.map (some mb)] 82)).alloc (.cells #[.slice none 0 0,.int .i64 0] 216)):=by simp[go_sem]
 clear hv hE ok hr
 go_enter Tryz.func130,Tryz.ntmps130
 go_wp2_with fail
 refine(hZ _ hE1 hv1).mono ?_
 rintro q w2 ⟨vz,rfl,_,hb2⟩
 have hfd:∀w:World,(Instr.field 136 (.agg #[.string zn,vz]) 0).run Tryz.prog w=.ok (.string zn) w:=fun _=>by kernel_rfl
 have hB2:=qtr hB1 hb2
 have hv2:=hv1.below hb2
 have hE2:=hE1.of_below hb2
 have y0:=jab hb2 x0
 have y1:=jab hb2 x1
 have y2:=jab hb2 x2
 have y3:=jab hb2 x3
 have s0:=jab hb2 r0
 have s1:=jab hb2 r1
 have g0:=qfz hb2 r0 f0
 have g1:=qfz hb2 r1 f1
 have hlt2:=qbl s0
 clear x0 x1 x2 x3 r0 r1 f0 f1 hb2 hB1 hv1 hE1 hZ
 obtain⟨t,z,hlook,hz⟩:=hC.look2 hB2 (s:=zn) (by unfold maxLen;omega)
 have HZ:=hid hz
 clear hz
 obtain⟨ta,tn,tc,tk⟩:=t
 simp only[TOut.v]at hlook
 dsimp only at hlt2
 have hB3:=hB2.alloc hB2.size (.cells #[.slice ta tn tc,.int .i64 tk] 216)
 have b3:=qal w2 (.cells #[.slice ta tn tc,.int .i64 tk] 216)
 cases z
 ·have hsz:=hB2.size
  have hT3:=hT _ (hE2.of_below b3) (hv2.below b3)
  have z0:=jab b3 y0
  have z1:=jab b3 y1
  have z2:=jab b3 y2
  obtain⟨q0,q1,p0,p1⟩:(fun z:World=>z.cell? ⟨w2.heap.size,0,none⟩=some (.slice ta tn tc)/\z.cell? ⟨w2.heap.size,1,none⟩=some (.int .i64 tk)/\z.frozen? ⟨w2.heap.size,0,none⟩=false/\z.frozen? ⟨w2.heap.size,1,none⟩=false) (w2.alloc (.cells #[.slice ta tn tc,.int .i64 tk] 216)):=by simp[go_sem]
  have hs3:(w2.alloc (.cells #[.slice ta tn tc,.int .i64 tk] 216)).heap.size=w2.heap.size+1:=by simp
  clear HZ hT
  go_wp2_with fail
  refine hT3.mono ?_
  rintro q W4 hP
  obtain⟨v7,rfl,hO7,hb4⟩:=hP.ex
  obtain⟨a7,m7,d7,rfl⟩:=jaq hO7
  have HO7:=hid hO7
  obtain⟨tk7,htk⟩:∃x,(tabD r zn).1=x:=⟨_,rfl⟩
  have HK7:=hid htk
  rw[htk]
  clear htk hP hO7
  have o0:=jab hb4 q0
  have o1:=jab hb4 q1
  have n0:=qfz hb4 q0 p0
  have n1:=qfz hb4 q1 p1
  have b4:Below w2.heap.size w2 W4:=qtr b3 hb4
  have b5:Below w2.heap.size w2 ((W4.setCell ⟨w2.heap.size,0,none⟩ (.slice a7 m7 d7)).setCell ⟨w2.heap.size,1,none⟩ (.int .i64 tk7)):=(b4.setCell (Nat.le_refl _) _).setCell (Nat.le_refl _) _
  have hB5:=hB2.trans (b5.mono hsz)
  have c3:=jab b5 y3
  have e0:=jab b5 s0
  have e1:=jab b5 s1
  have m0:=qfz b5 s0 g0
  have m1:=qfz b5 s1 g1
  obtain⟨u0,u1⟩:=ja5 (v0:=.slice a7 m7 d7) (v1:=.int .i64 tk7) o0 o1
  obtain⟨W6,hup,ht6,hfin⟩:=hC.store2 (by unfold maxLen;omega) hB5 (s:=zn) (by unfold maxLen;omega) ⟨a7,m7,d7,tk7⟩
  simp only[TOut.v]at hup
  have hw2:w.heap.size<=w2.heap.size:=hsz
  have i0:=ht6.grown.cell u0 (by simp;omega)
  have i1:=ht6.grown.cell u1 (by simp;omega)
  have j0:=ht6.grown.cell e0 (by simp;omega)
  have j1:=ht6.grown.cell e1 (by simp;omega)
  have l0:=(ht6.frozen ⟨w.heap.size+1,0,none⟩).trans m0
  have l1:=(ht6.frozen ⟨w.heap.size+1,1,none⟩).trans m1
  have HP:Hid (TblP r nm mb mn w (.returned (.agg #[.slice a7 m7 d7,.int .i64 tk7])) ((W6.setCell ⟨w.heap.size+1,0,none⟩ (.slice a7 m7 d7)).setCell ⟨w.heap.size+1,1,none⟩ (.int .i64 tk7))):=by
   have G7:=ja2 W6 (w.heap.size+1) (.slice a7 m7 d7) (.int .i64 tk7)
   have Gw:w.grownBy ((W6.setCell ⟨w.heap.size+1,0,none⟩ (.slice a7 m7 d7)).setCell ⟨w.heap.size+1,1,none⟩ (.int .i64 tk7)) (some mb):=(((jag hB5).but _).andThen ht6.grown (fun _ h=>.inr h)).andThen G7 (fun j h=>by injection h with h;omega)
   have hO:=HO7.out
   have hlo:=World.ownsRow.lt hO
   have hE:TabE ((W6.setCell ⟨w.heap.size+1,0,none⟩ (.slice a7 m7 d7)).setCell ⟨w.heap.size+1,1,none⟩ (.int .i64 tk7)) ⟨a7,m7,d7,tk7⟩ (tabD r zn):=by
    have k1:=World.ownsRow.kept hO (ja2 W4 w2.heap.size (.slice a7 m7 d7) (.int .i64 tk7)) (.inr fun h=>by have:=(hlo _ h).1;omega)
    have k2:=World.ownsRow.kept k1 ht6.grown (.inr fun h=>by have:=(hlo _ h).1;omega)
    have k3:=World.ownsRow.kept k2 G7 (.inr fun h=>by have:=(hlo _ h).1;omega)
    have k4:=j44 (x:=tabD r zn) k3
    rw[HK7.out]at k4
    exact k4
   exact⟨⟨⟨a7,m7,d7,tk7⟩,rfl,by rw[HX.out];exact hE⟩,hfin _ _ G7 (by omega) Gw hE,Gw⟩
  obtain⟨t0,t1⟩:=ja5 (v0:=.slice a7 m7 d7) (v1:=.int .i64 tk7) j0 j1
  clear hfin ht6 hb4 b4 hs3
  go_wp2
  exact bodyPost_ret (v:=.agg #[.slice a7 m7 d7,.int .i64 tk7]) (by simp[results,Tryz.results130,go_sem,t0,t1]) rfl HP.out
 ·have HT:=HZ.out rfl
  have hg1:w.heap.size<=w.heap.size+1:=by omega
  have hBs:Below w.heap.size w ((w2.setCell ⟨w.heap.size+1,0,none⟩ (.slice ta tn tc)).setCell ⟨w.heap.size+1,1,none⟩ (.int .i64 tk)):=(hB2.setCell hg1 _).setCell hg1 _
  have hB4:=hBs.alloc hBs.size (.cells #[.slice ta tn tc,.int .i64 tk] 216)
  have HP:Hid (TblP r nm mb mn w (.returned (.agg #[.slice ta tn tc,.int .i64 tk])) (((w2.setCell ⟨w.heap.size+1,0,none⟩ (.slice ta tn tc)).setCell ⟨w.heap.size+1,1,none⟩ (.int .i64 tk)).alloc (.cells #[.slice ta tn tc,.int .i64 tk] 216))):=⟨⟨⟨ta,tn,tc,tk⟩,rfl,by rw[HX.out];exact HT.below hB4⟩,(hC.below hB4).mono (by omega),(jag hB4).but _⟩
  obtain⟨t0,t1⟩:=ja5 (v0:=.slice ta tn tc) (v1:=.int .i64 tk) s0 s1
  have b5:=(Below.refl _ ((w2.setCell ⟨w.heap.size+1,0,none⟩ (.slice ta tn tc)).setCell ⟨w.heap.size+1,1,none⟩ (.int .i64 tk))).alloc (Nat.le_refl _) (.cells #[.slice ta tn tc,.int .i64 tk] 216)
  have t0':=jab b5 t0
  have t1':=jab b5 t1
  clear HZ hT
  go_wp2
  exact bodyPost_ret (v:=.agg #[.slice ta tn tc,.int .i64 tk]) (by simp[results,Tryz.results130,go_sem,t0',t1']) rfl HP.out
end
section
open Go.RowKit Go.ChangeMaps Go.MapKept Go.WideMaps
structure ClkP(r:RelD)(a b c:Option Addr)(ca cb cc:Nat)(w:World)(q:Ending)(w':World):Prop where
 ex:q=.returned (.agg #[.slice a r.rules.length ca,.slice b r.zones.length cb,.slice c r.links.length cc,.map (some (w.heap.size+1+1))])
 cache:Ze w' (w.heap.size+1+1) 0 r
 bel:Below w.heap.size w w'
theorem j5o(w:World)(r:RelD){n:Nat}(h:w.heap.size=n):Ze (w.alloc (.map #[] 0)) n 0 r:=by subst h;exact Ze.made w r
theorem jd4(r:RelD)(a b c:Option Addr)(ca cb cc:Nat)(w:World):
  Calls Tryz.prog 38 #[.agg #[.slice a r.rules.length ca,.slice b r.zones.length cb,.slice c r.links.length cc]] w (ClkP r a b c ca cb cc w):=by
 have hmm:=@run_makeMap Tryz.prog
 go_enter Tryz.func38,Tryz.ntmps38
 go_wp2
 refine bodyPost_ret (v:=.agg #[.slice a r.rules.length ca,.slice b r.zones.length cb,.slice c r.links.length cc,.map (some (w.heap.size+1+1))]) (by simp[results,Tryz.results38,go_sem]) rfl ⟨rfl,?_,?_⟩
 ·exact j5o _ r (by simp)
 ·exact((qal _ _).alloc (by simp) _).alloc (by simp;omega) _
end
end Go.Proofs.YtofdpfpdocpbpaaGreatDoor
