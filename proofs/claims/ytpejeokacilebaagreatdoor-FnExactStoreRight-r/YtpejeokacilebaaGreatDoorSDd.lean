import Derived.Test.YtpejeokacilebaaGreatDoorSCd
import Derived.Test.YtpejeokacilebaaGreatDoorSBd
import Derived.Test.YtpejeokacilebaaGreatDoorTbSd
set_option maxRecDepth 100000
set_option maxHeartbeats 0
set_option linter.unusedSimpArgs false
namespace Go.Proofs.YtpejeokacilebaaGreatDoor
section
open Go.RowKit Go.ChangeMaps Go.MapKept
theorem jap{w w':World}(hb:Bw w w'):w.grownBy w' none:=⟨hb.os,hb.tape,hb.output,hb.size,fun k hk _=>hb.block k hk⟩
structure Tells(f:Int->Option EventD)(L:List EventD):Prop where
 id:∀i x,f i=some x->x.id=i
 mem:∀e,e∈L↔f e.id=some e
theorem jv8{D:DataW EventD}{f:Int->Option EventD}(h:MapV D f){x:Int}{c:EventD}(bE:∀z,D.atKey (.int .i64 x) z=.held c):f x=some c:=by
 cases hf:f x with
 |none=>
  have:=(h x c).2 hf
  rw[Maps.has_true_of_atKey bE]at this
  cases this
 |some e=>
  have:=((h x e).1 hf).2 (.held c)
  rw[bE]at this
  injection this with this
  rw[this]
theorem jk0{D:DataW EventD}{f:Int->Option EventD}(h:MapV D f){x:Int}{e:EventD}(hf:f x=some e):Maps.has D (.int .i64 x)=true:=((h x e).1 hf).1
theorem jit{left:Lit->Bool}{x y:Int}(h:(left (.int .i64 y)&& !Lit.sameKey (.int .i64 y) (.int .i64 x))=false):left (.int .i64 y)=false\/y=x:=by
 cases hl:left (.int .i64 y)
 ·exact .inl rfl
 ·rw[hl]at h
  by_cases e:y=x
  ·exact .inr e
  ·rw[Maps.sameKey_ne (fun h=>e (by simp only[Lit.int.injEq,true_and]at h;exact h))]at h
   cases h
theorem jgy(f:Int->Option EventD)(L:List EventD)(b n:Nat)(r:RelD)(v:Value)(w:World)(cg:Zx w)(hM:Zm w b n f)(hL:Tells f L)(hv:Zd w v r)(ok:Jk r)(hr:relB r=true):
  Cl 79 #[.map (some b),v] w fun e w'=>e=.returned (.bool (L.all fun x=>inR r x.zone))/\Bw w w':=by
 obtain⟨a,b2,c,ca,cb,cc,rfl,_,_,_⟩:=hv.form
 have ag:=qal w (.cells #[.slice a r.rules.length ca,.slice b2 r.zones.length cb,.slice c r.links.length cc] 37)
 have dD:=hM.alloc (.cells #[.slice a r.rules.length ca,.slice b2 r.zones.length cb,.slice c r.links.length cc] 37)
 have mt:=hM.lt
 obtain⟨D,ai,hD⟩:=dD.own
 have hZ:=fun nm w hE h=>jqk r (.agg #[.slice a r.rules.length ca,.slice b2 r.zones.length cb,.slice c r.links.length cc]) nm w hE h ok hr
 obtain⟨s0,s1,s2⟩:(fun z:World=>z.cell? (ad w.heap.size 0)=some (.slice a r.rules.length ca)/\z.cell? (ad w.heap.size 1)=some (.slice b2 r.zones.length cb)/\z.cell? (ad w.heap.size 2)=some (.slice c r.links.length cc)) (w.alloc (.cells #[.slice a r.rules.length ca,.slice b2 r.zones.length cb,.slice c r.links.length cc] 37)):=by simp[go_sem]
 have dQ:=hv.below ag
 have eu:=cg.of_below ag
 have HT:=hid hL
 have HD:=hid hD
 clear dD hM hL hv cg hD
 unfold Cl;go_in
 have dP:(w.alloc (.cells #[.slice a r.rules.length ca,.slice b2 r.zones.length cb,.slice c r.links.length cc] 37)).heap.size=w.heap.size+1:=by simp
 go_wp2_with (first
  |(at_range;refine wpList_range_own _ rfl _ 105 rfl 2 54 (Maps.int_keyed keyT) mapT jcy b n D rfl ai ?_;intro w0 kK kC aG)
  |go_in)
 go_frame
 generalize (w.alloc (.cells #[.slice a r.rules.length ca,.slice b2 r.zones.length cb,.slice c r.links.length cc] 37))=wb at *
 go_loopw [6] (fun _ wr=>∃(left:Lit->Bool) (jw:Nat),wr.ranges Tryz.prog 2 jcy b wb.heap.size n D left jw/\Hid (∀x e,f x=some e->left (.int .i64 x)=false->inR r e.zone=true)/\Bw wb wr) (fun _ wr=>wr.rangeLeft b wb.heap.size)
 case atStart=>exact⟨_,_,kK,fun x e hf hl=>by(rw[jk0 HD.out hf]at hl;cases hl),(brf _ _).grown kC (by omega) (fun k hk=>by cases hk)⟩
 case round=>
  obtain⟨wa,dS⟩:=qea wr
  subst dS
  obtain⟨left,jw,oH,HK,aK⟩:=hrel
  clear kK kC aG
  have cR:=ag.trans (aK.mono (by omega))
  have hsz:=aK.size
  have xd:=hid aK
  have HS:=hid dP
  clear dP
  go_wp2_with (first
   |(at_next;refine wpList_next_ranges _ rfl _ rfl 2 (Maps.int_keyed keyT) jcy (Value.int .i64) (fun c:EventD=>Value.agg #[.int .i64 c.id,.string c.name,.string c.zone,.int .i64 c.wall,.int .i64 c.gap,.int .i64 c.fold]) (fun key kl bS=>by(obtain⟨x,rfl,_⟩:=Maps.keyOf_int_inv keyT bS;exact⟨x,rfl⟩)) (fun v y hv=>by(obtain⟨c,rfl,_⟩:=jde hv;exact⟨c,rfl⟩)) b wb.heap.size n D left jw rfl oH ?_ ?_)
   |go_in)
  ·intro _ hl0
   have HF:Hid (L.all (fun x=>inR r x.zone)=true):=List.all_eq_true.mpr fun e he=>HK.out e.id e ((HT.out.mem e).mp he) (hl0 _)
   go_wp2
   go_ret
   exact⟨ret_bool HF.out.symm,cR⟩
  ·intro x c kl y ys w1 iS bS i8 ej bE hrg1 hlt cQ bU fi
   have HF:Hid (f x=some c/\c.id=x/\kl=.int .i64 x):=by
    obtain⟨x',ex,rfl,_⟩:=Maps.keyOf_int_inv keyT bS
    cases ex
    obtain⟨c',ec,ez⟩:=jde ej
    simp only[Prod.mk.injEq]at ez
    obtain⟨rfl,_⟩:=ez
    have:c'=c:=by cases c;cases c';simp only[EventD.v,Value.agg.injEq]at ec;simp_all
    subst this
    have h1:=jv8 HD.out bE
    exact⟨h1,HT.out.id _ _ h1,rfl⟩
   have aj:Bw wb w1:=xd.out.grown cQ hsz (fun k hk=>by(cases hk;exact nlr _))
   have an:=aj.alloc aj.size (.cells #[iv c.id,.string c.name,.string c.zone,iv c.wall,iv c.gap,iv c.fold] 54)
   have t0:=jaa an s0
   have t1:=jaa an s1
   have t2:=jaa an s2
   have xS:=hZ c.zone _ (eu.of_below an) (dQ.below an)
   have kc:=hrg1.alloc (.cells #[iv c.id,.string c.name,.string c.zone,iv c.wall,iv c.gap,iv c.fold] 54)
   clear ej bE bS cQ hZ
   cases hin:inR r c.zone
   ·have HA:Hid (L.all (fun x=>inR r x.zone)=false):=List.all_eq_false.mpr ⟨c,(HT.out.mem c).mpr (by rw[HF.out.2.1];exact HF.out.1),by rw[hin];simp⟩
    rw[hin]at xS
    clear hin
    go_wp2_with fail
    refine xS.mono ?_
    rintro e w2 ⟨rfl,ac⟩
    have ax:=ag.trans ((qtr an ac).mono (by rw[HS.out];omega))
    go_wp2
    go_ret
    exact⟨ret_bool HA.out.symm,ax⟩
   ·have HN:Hid (∀z e,f z=some e->(left (.int .i64 z)&& !Lit.sameKey (.int .i64 z) kl)=false->inR r e.zone=true):=by
     intro z e hf hl
     rw[HF.out.2.2]at hl
     rcases jit hl with h|rfl
     ·exact HK.out z e hf h
     ·rw[HF.out.1]at hf;cases hf;exact hin
    rw[hin]at xS
    clear hin
    go_wp2_with fail
    refine xS.mono ?_
    rintro e w2 ⟨rfl,ac⟩
    have ax:=qtr an ac
    have kM:=kc.kept (jap ac) (by simp) (by simp)
    have Hg:=hid ax
    go_wp2
    go_roundw
    case rel=>exact⟨_,iS,kM,HN,Hg.out⟩
    case measure=>rw[kM.left_eq,oH.left_eq];exact hlt
end
section
open Go.RowKit Go.ChangeMaps Go.MapKept
theorem jga(l:List VersionD):Tells (jch l) (jan l):=by
 refine⟨fun i x h=>?_,fun e=>liveL_mem⟩
 unfold jch at h
 cases hk:jci l i with
 |none=>rw[hk]at h;cases h
 |some k=>
  obtain⟨_,⟨v,hv,iK⟩,_⟩:=jdc hk
  rw[hk]at h
  simp only[hv]at h
  split at h
  ·cases h
  ·cases h;exact iK
theorem jzj{w:World}{b n:Nat}{D:DataW EventD}(h:w.ownsMap Tryz.prog 2 jcy b n D):∃es,D=.map es/\es.Pairwise (fun p q=>p.1≠q.1)/\∀p∈es,(∃x,p.1=.int .i64 x)/\Maps.has D p.1=true:=by
 obtain⟨IH,hD,hp,hk⟩:=h.entries (Maps.int_keyed keyT)
 refine⟨IH,hD,hp,fun p oE=>⟨?_,?_⟩⟩
 ·obtain⟨es,aZ,_,F,_,sd⟩:=h
  rw[hD]at sd
  injection sd with sd
  rw[sd]at oE
  obtain⟨x,hx,rfl⟩:=List.mem_map.1 (mem_sorted.1 oE)
  obtain⟨y,hy⟩:=F.reads x hx
  rw[WideElems.rg_of hy]
  obtain⟨z,_,h2,_⟩:=Maps.keyOf_int_inv keyT (WideElems.rd_key hy)
  exact⟨z,h2⟩
 ·rw[hD,Maps.has_eq]
  exact List.any_eq_true.2 ⟨p,oE,WideAt.sameKey_self (hk p oE)⟩
theorem jia{w:World}{b n:Nat}{f:Int->Option EventD}{L:List EventD}{D:DataW EventD}(h:w.ownsMap Tryz.prog 2 jcy b n D)(hV:MapV D f)(hT:Tells f L)(hL:L.Pairwise fun x y=>x.id<y.id):Maps.size D=L.length:=by
 obtain⟨es,hD,hp,hk⟩:=jzj h
 have d1:(es.map fun p=>p.1).Nodup:=List.pairwise_map.mpr hp
 have d2:(L.map fun e=>Lit.int .i64 e.id).Nodup:=List.pairwise_map.mpr (hL.imp fun {x y} gI h=>by simp only[Lit.int.injEq,true_and]at h;omega)
 have vr:(es.map fun p=>p.1).Perm (L.map fun e=>Lit.int .i64 e.id):=(List.perm_ext_iff_of_nodup d1 d2).mpr fun kl=>by
  constructor
  ·intro hm
   obtain⟨p,oE,rfl⟩:=List.mem_map.mp hm
   obtain⟨⟨x,hx⟩,hh⟩:=hk p oE
   rw[hx]at hh ⊢
   cases hf:f x with
   |none=>rw[(hV x ⟨0,⟨#[]⟩,⟨#[]⟩,0,0,0⟩).2 hf]at hh;cases hh
   |some e=>
    have hi:=hT.id x e hf
    exact List.mem_map.mpr ⟨e,(hT.mem e).mpr (by rw[hi];exact hf),by rw[hi]⟩
  ·intro hm
   obtain⟨e,he,rfl⟩:=List.mem_map.mp hm
   have hh:=((hV e.id e).1 ((hT.mem e).mp he)).1
   rw[hD,Maps.has_eq]at hh
   obtain⟨p,oE,Ct⟩:=List.any_eq_true.1 hh
   exact List.mem_map.mpr ⟨p,oE,WideAt.sameKey_eq Ct⟩
 have:=vr.length_eq
 rw[llm,llm]at this
 rw[hD,Maps.size_eq,this]
end
section
open Go.RowKit Go.ChangeMaps Go.MapKept
def jnr(s:StoreD)(L:List EventD):Bool:=decide (L.length<=30)&&((L.all fun x=>inR s.now x.zone)&&(decide (s.cur=0) || (L.all fun x=>inR s.was x.zone)))
theorem jtg(s:StoreD)(L:List EventD):jnr s L=(decide (L.length<=30)&&L.all fun x=>jdv s x.zone):=by
 unfold jnr
 congr 1
 unfold jdv
 induction L with
 |nil=>simp
 |cons x L ih=>
  simp only[List.all_cons]
  rw[<- ih]
  cases inR s.now x.zone<;>cases decide (s.cur=0)<;>cases inR s.was x.zone<;>cases (L.all fun x=>inR s.now x.zone)<;>cases (L.all fun x=>inR s.was x.zone)<;>rfl
theorem jkd(s:StoreD)(v:Value)(F:Int->Option EventD)(L:List EventD)(mb mn:Nat)(w:World)(hE:Zx w)(hv:Jd w v s)(ok:Zr s)(hM:Zm w mb mn F)(hT:Tells F L)(hL:L.Pairwise fun x y=>x.id<y.id)(lE:mn<=1048576)(oG:relB s.now=true)(dC:relB s.was=true):
  Cl 47 #[v,.map (some mb)] w fun e w'=>e=.returned (.bool (jnr s L))/\Bw w w':=by
 obtain⟨a,b,c,d,e,f,va,ia,ca,cb,cc,cd,ce,cf,cv,ci,rfl,hN,hW,_,_,_,_⟩:=hv.form
 have ag:=qal w (.cells #[iv s.tx,.slice a s.now.rules.length ca,.slice b s.now.zones.length cb,.slice c s.now.links.length cc,.slice d s.was.rules.length cd,.slice e s.was.zones.length ce,.slice f s.was.links.length cf,iv s.cur,.slice va s.vs.length cv,.slice ia s.ix.length ci] 41)
 have hF:=fun w hE hM h=>jgy F L mb mn s.now (.agg #[.slice a s.now.rules.length ca,.slice b s.now.zones.length cb,.slice c s.now.links.length cc]) w hE hM hT h ok.now oG
 have hG:=fun w hE hM h=>jgy F L mb mn s.was (.agg #[.slice d s.was.rules.length cd,.slice e s.was.zones.length ce,.slice f s.was.links.length cf]) w hE hM hT h ok.was dC
 have fU:=hN.below ag
 have j6:=hW.below ag
 have eu:=hE.of_below ag
 have dD:=hM.below ag
 have au:∀ty,(Builtin.len_ #[105] ty #[.map (some mb)]).run Tryz.prog (w.alloc (.cells #[iv s.tx,.slice a s.now.rules.length ca,.slice b s.now.zones.length cb,.slice c s.now.links.length cc,.slice d s.was.rules.length cd,.slice e s.was.zones.length ce,.slice f s.was.links.length cf,iv s.cur,.slice va s.vs.length cv,.slice ia s.ix.length ci] 41))=.ok (iv L.length) (w.alloc (.cells #[iv s.tx,.slice a s.now.rules.length ca,.slice b s.now.zones.length cb,.slice c s.now.links.length cc,.slice d s.was.rules.length cd,.slice e s.was.zones.length ce,.slice f s.was.links.length cf,iv s.cur,.slice va s.vs.length cv,.slice ia s.ix.length ci] 41)):=fun ty=>by
  obtain⟨D,h1,h2⟩:=dD.own
  rw[<- jia h1 h2 hT hL]
  exact h1.len mapT ty
 have i9:L.length<=1048576:=by
  obtain⟨D,h1,h2⟩:=dD.own
  have:=h1.size_le
  rw[jia h1 h2 hT hL]at this
  omega
 unfold jnr
 clear hv ok hN hW hE oG dC hM hT hL lE
 generalize (L.all fun x=>inR s.now x.zone)=pb at *
 generalize (L.all fun x=>inR s.was x.zone)=qb at *
 generalize L.length=ln at *
 obtain⟨tx,now,was,cur,vs,ix⟩:=s
 dsimp only at *
 by_cases lm:ln<=30
 ·have J4:(ln:Int)<=30:=by omega
  rw[dte lm]
  cases pb
  ·unfold Cl;go_in
   go_wp2_with fail
   refine(hF _ eu dD fU).mono ?_
   rintro e' w1 ⟨rfl,hb1⟩
   go_wp2
   go_ret
   exact⟨rfl,ag.trans (hb1.mono (by simp))⟩
  by_cases kA:cur=0
  ·subst kA
   unfold Cl;go_in
   go_wp2_with fail
   refine(hF _ eu dD fU).mono ?_
   rintro e' w1 ⟨rfl,hb1⟩
   have x7:w1.cell? (ad w.heap.size 7)=some (iv 0):=jaa hb1 (by simp[go_sem])
   go_wp2
   go_ret
   exact⟨rfl,ag.trans (hb1.mono (by simp))⟩
  rw[dfe kA]
  have aX:(cur==0)=false:=by simp[kA]
  unfold Cl;go_in
  go_wp2_with fail
  refine(hF _ eu dD fU).mono ?_
  rintro e' w1 ⟨rfl,hb1⟩
  have x7:w1.cell? (ad w.heap.size 7)=some (iv cur):=jaa hb1 (by simp[go_sem])
  have x4:w1.cell? (ad w.heap.size 4)=some (.slice d was.rules.length cd):=jaa hb1 (by simp[go_sem])
  have x5:w1.cell? (ad w.heap.size 5)=some (.slice e was.zones.length ce):=jaa hb1 (by simp[go_sem])
  have x6:w1.cell? (ad w.heap.size 6)=some (.slice f was.links.length cf):=jaa hb1 (by simp[go_sem])
  have j7:=j6.below hb1
  have jx:=eu.of_below hb1
  have gR:=dD.below hb1
  have aj:=ag.trans (hb1.mono (by simp))
  clear ag hb1 j6 fU eu dD au
  go_wp2_with fail
  refine(hG _ jx gR j7).mono ?_
  rintro e' w2 ⟨rfl,ac⟩
  have an:=qtr aj ac
  go_wp2
  go_ret
  exact⟨ret_bool (by simp),an⟩
 ·have J4:¬(ln:Int)<=30:=by omega
  rw[dfe lm]
  unfold Cl;go_in
  go_wp2
  go_ret
  exact⟨rfl,ag⟩
end
section
open Go.RowKit Go.ChangeMaps Go.MapKept Go.WideMaps
structure TOut where
 a:Option Addr
 n:Nat
 c:Nat
 code:Int
def TOut.v(t:TOut):Value:=.agg #[.slice t.a t.n t.c,iv t.code]
def jrd:Value->Option (DataW TOut × List MemPlace)
 |.agg ⟨[.slice a n c,.int .i64 k]⟩=>some (.held ⟨a,n,c,k⟩,[])
 |_=>none
theorem jm0(t:TOut):jrd t.v=some (.held t,[]):=by cases t;rfl
theorem jss{v:Value}{z:DataW TOut × List MemPlace}(h:jrd v=some z):∃t:TOut,v=t.v/\z=(.held t,[]):=by
 unfold jrd at h
 split at h
 ·cases h;exact⟨_,rfl,rfl⟩
 ·cases h
structure Jg(w:World)(t:TOut)(x:Int × List TurnD):Prop where
 code:t.code=x.1
 n:t.n=x.2.length
 seq:Za w t.a 4 (x.2.map TurnD.cs)
 typ:∀b o,t.a=some (ad b o)->∃cs,w.heap[b]? =some (.cells cs 167 (0,0))
theorem seq_grown{w w':World}{row:Option Nat}{a:Option Addr}{k:Nat}{rows:List (List Value)}(h:Za w a k rows)(hg:w.grownBy w' row)(az:∀b o,w.cell? (ad b o)≠none->some b≠row):Za w' a k rows:=by
 rcases h with h|⟨b,o,ha,hc⟩
 ·exact .inl h
 ·refine .inr ⟨b,o,ha,fun i j r c hr hj=>?_⟩
  have h1:=hc i j r c hr hj
  exact hg.cell h1 (az b _ (by rw[h1];simp))
theorem jrt{w:World}{b:Nat}{es:Array MapEntry}{aZ:Nat}(h:w.heap[b]? =some (.map es aZ))(o:Nat):w.cell? (ad b o)=none:=by
 simp[World.cell?,h]
theorem j0h{u s:ByteArray}(h:u.data.toList=s.data.toList):u=s:=by
 have h2:=Array.toList_inj.mp h
 cases u;cases s
 simp only at h2
 rw[h2]
theorem Jg.grown{w w':World}{row:Option Nat}{t:TOut}{x:Int × List TurnD}(h:Jg w t x)(hg:w.grownBy w' row)(az:∀b cs,w.heap[b]? =some (.cells cs 167 (0,0))->some b≠row):Jg w' t x:=by
 refine⟨h.code,h.n,?_,fun b o hb=>?_⟩
 ·rcases h.seq with h0|⟨b,o,ha,hc⟩
  ·exact .inl h0
  ·obtain⟨cs,ku⟩:=h.typ b o ha
   exact .inr ⟨b,o,ha,fun i j r c hr hj=>hg.cell (hc i j r c hr hj) (az b cs ku)⟩
 ·obtain⟨cs,ku⟩:=h.typ b o hb
  exact⟨cs,(hg.block b (Array.getElem?_eq_some_iff.1 ku).1 (az b cs ku)).trans ku⟩
theorem Jg.below{w w':World}{t:TOut}{x:Int × List TurnD}(h:Jg w t x)(hb:Bw w w'):Jg w' t x:=h.grown (jap hb) (fun _ _ _=>by simp)
structure Zi(w:World)(b n:Nat)(r:RelD):Prop where
 own:∃D,w.ownsMap Tryz.prog 9 jrd b n D/\∀s:ByteArray,Maps.has D (.string s.data.toList)=true->∃t,(∀z,D.atKey (.string s.data.toList) z=.held t)/\Jg w t (tabD r s)
theorem j3g:Tryz.prog.underlying 110=some (.map 9 140):=by kernel_rfl
theorem keyS:Tryz.prog.underlying 9=some .string:=by kernel_rfl
theorem jue(w:World):(zeroValue 140).run Tryz.prog w=.ok (TOut.v ⟨none,0,0,0⟩) w:=by kernel_rfl
theorem Zi.made(w:World)(r:RelD):Zi (w.alloc (.map #[] 0)) w.heap.size 0 r:=⟨_,World.ownsMap_made w _ _ _,fun s h=>by cases h⟩
theorem Zi.lt{w:World}{b n:Nat}{r:RelD}(h:Zi w b n r):b<w.heap.size:=by
 obtain⟨D,h1,_⟩:=h.own
 exact h1.lt
theorem Zi.blk{w:World}{b n:Nat}{r:RelD}(h:Zi w b n r):∀b' cs,w.heap[b']? =some (.cells cs 167 (0,0))->some b'≠some b:=by
 obtain⟨D,⟨es,aZ,hb,_⟩,_⟩:=h.own
 intro b' cs h1 h2
 injection h2 with h2
 subst h2
 rw[hb]at h1
 cases h1
theorem Zi.grown{w w':World}{b n g:Nat}{r:RelD}(h:Zi w b n r)(hg:w.grownBy w' (some g))(jG:b≠g)(az:∀cs,w.heap[g]? ≠some (.cells cs 167 (0,0))):Zi w' b n r:=by
 obtain⟨D,h1,h2⟩:=h.own
 refine⟨D,h1.kept hg (by simpa using jG),fun s hs=>?_⟩
 obtain⟨t,ht,hE⟩:=h2 s hs
 exact⟨t,ht,hE.grown hg (fun b' cs hc e=>by injection e with e;subst e;exact az cs hc)⟩
theorem Zi.cell{w:World}{b n:Nat}{r:RelD}(h:Zi w b n r)(o:Nat):w.cell? (ad b o)=none:=by
 obtain⟨D,⟨es,aZ,hb,_⟩,_⟩:=h.own
 exact jrt hb o
theorem Zi.below{w w':World}{b n:Nat}{r:RelD}(h:Zi w b n r)(hb:Bw w w'):Zi w' b n r:=by
 obtain⟨D,h1,h2⟩:=h.own
 refine⟨D,h1.kept (jap hb) (by simp),fun s hs=>?_⟩
 obtain⟨t,ht,hE⟩:=h2 s hs
 exact⟨t,ht,hE.below hb⟩
end
section
open Go.RowKit Go.ChangeMaps Go.MapKept Go.WideMaps
theorem Zi.look2{w w2:World}{b n:Nat}{r:RelD}(h:Zi w b n r)(hb:Bw w w2){s:ByteArray}(hs:s.size<=maxLen):∃(t:TOut) (z:Bool),(Instr.lookup 110 (.map (some b)) (.string s) true).run Tryz.prog w2=.ok (.tuple #[t.v,.bool z]) w2/\(z=true->Jg w t (tabD r s)):=by
 obtain⟨D,h1,h2⟩:=h.own
 obtain⟨v,ps,hr,hv⟩:=(h1.kept (jap hb) (by simp)).look_ok (Maps.string_keyed keyS) j3g (jue w2) (jm0 _) (keyOf_string_mk keyS hs)
 obtain⟨t,rfl,he⟩:=jss hv
 refine⟨t,_,hr,fun hz=>?_⟩
 obtain⟨t',ht,hE⟩:=h2 s hz
 rw[ht]at he
 have h3:=congrArg Prod.fst he
 simp only[DataW.held.injEq]at h3
 rw[<- h3]
 exact hE
theorem Zi.store2{w W5:World}{b n:Nat}{r:RelD}(h:Zi w b n r)(hn:n<maxLen)(hb:Bw w W5){s:ByteArray}(hs:s.size<=maxLen)(t:TOut):∃W6,(Instr.mapUpdate 110 (.map (some b)) (.string s) t.v).run Tryz.prog W5=.ok () W6/\W5.mapTurned W6 b/\∀W7 g,W6.grownBy W7 (some g)->g≠b->w.grownBy W7 (some b)->Jg W7 t (tabD r s)->Zi W7 b (n+1) r:=by
 have rX:=h.blk
 obtain⟨D,h1,h2⟩:=h.own
 have hM:=h1.isMap
 have od:WideAt.IsKeyLit (.string s.data.toList):=trivial
 obtain⟨W6,hr,ho,ht⟩:=(h1.kept (jap hb) (by simp)).store (Maps.string_keyed keyS) j3g hn (keyOf_string_mk keyS hs) (jm0 t)
 refine⟨W6,hr,ht,fun W7 g hg jG hw hT=>⟨_,ho.kept hg (by simp;exact fun e=>jG e.symm),fun u hu=>?_⟩⟩
 by_cases e:u=s
 ·subst e
  exact⟨t,fun z=>Maps.atKey_put_same hM od _ _,hT⟩
 ·have hk:Lit.string u.data.toList≠Lit.string s.data.toList:=fun h=>e (by
   simp only[Lit.string.injEq]at h
   exact j0h h)
  rw[Maps.has_put_other hk]at hu
  obtain⟨t2,q1,q2⟩:=h2 u hu
  exact⟨t2,fun z=>by rw[Maps.atKey_put_other hk];exact q1 z,q2.grown hw rX⟩
theorem jem(w:World)(g o:Nat)(u:Value):w.grownBy (w.setCell (ad g o) u) (some g):=⟨rfl,rfl,rfl,by simp,fun k _ hk=>Below.heap_setCell _ _ _ k (fun e=>hk (by rw[e]))⟩
theorem jbz(w:World)(g:Nat)(u v:Value):w.grownBy ((w.setCell (ad g 0) u).setCell (ad g 1) v) (some g):=(jem w g 0 u).andThen (jem _ g 1 v) (fun _ h=>.inr h)
theorem ju2{W:World}{base m d:Nat}{a:Option Addr}{x:Int × List TurnD}(h:Zf W base (.slice a m d) x.2):Jg W ⟨a,m,d,x.1⟩ x:=by
 have ht:∀b o,a=some (ad b o)->∃cs,W.heap[b]? =some (.cells cs 167 (0,0)):=fun b o hb=>by
  rcases h.2 with⟨h0,_⟩|⟨g,cap,cur,h1,_,hh,_⟩
  ·injection h0 with h0 _ _;rw[hb]at h0;cases h0
  ·injection h1 with h1 _ _;rw[hb]at h1;injection h1 with h1;injection h1 with h1;subst h1;exact⟨cur,hh⟩
 unfold Zf at h
 have au:(x.2.map TurnD.cs).length=x.2.length:=by simp
 rw[<- au]at h
 obtain⟨a',cap,hv,hs,_⟩:=jbe h (fun r hr=>by obtain⟨y,_,rfl⟩:=List.mem_map.mp hr;rfl)
 injection hv with h1 h2 h3
 subst h1
 exact⟨rfl,by rw[<- au];exact h2,hs,ht⟩
structure TblP(r:RelD)(nm:ByteArray)(mb mn:Nat)(w:World)(e:Ending)(w':World):Prop where
 ex:∃t:TOut,e=.returned t.v/\Jg w' t (tabD r (jao r nm).name)
 cache:Zi w' mb (mn+1) r
 grown:w.grownBy w' (some mb)
theorem jkk{r:RelD}{nm:ByteArray}(h:relB r=true):(jao r nm).name.size<=20:=by
 cases hx:jbg r.zones (jba r.links nm)with
 |none=>rw[jc5 hx];exact Nat.zero_le _
 |some i=>
  have hi:i<r.zones.length:=by unfold jbg at hx;exact(List.findIdx?_eq_some_iff_getElem.mp hx).1
  rw[jcr h hx (lgg hi)]
  exact(jf8 (jc9 h (List.getElem_mem hi)).2).2.1
theorem Zi.mono{w:World}{b n n':Nat}{r:RelD}(h:Zi w b n r)(hn:n<=n'):Zi w b n' r:=by
 obtain⟨D,h1,h2⟩:=h.own
 exact⟨D,h1.mono hn,h2⟩
theorem jtq(r:RelD)(a b c:Option Addr)(ca cb cc mb mn:Nat)(nm:ByteArray)(w:World)(hE:Zx w)(hv:Zd w (.agg #[.slice a r.rules.length ca,.slice b r.zones.length cb,.slice c r.links.length cc]) r)(ok:Jk r)(hr:relB r=true)(hC:Zi w mb mn r)(lE:mn<=1048576):
  Cl 152 #[.agg #[.slice a r.rules.length ca,.slice b r.zones.length cb,.slice c r.links.length cc,.map (some mb)],.string nm] w (TblP r nm mb mn w):=by
 have F0:∀x y,Bw w ((w.alloc x).alloc y):=fun x y=>(qal _ x).alloc (by simp) y
 have aj:=F0 (.cells #[.slice a r.rules.length ca,.slice b r.zones.length cb,.slice c r.links.length cc,.map (some mb)] 112) (.cells #[nS,iv 0] 140)
 have hZ:=fun w hE h=>jfe r (.agg #[.slice a r.rules.length ca,.slice b r.zones.length cb,.slice c r.links.length cc]) nm w hE h ok.ok ok.sm ok.on
 have JR:=jkk (nm:=nm) hr
 have hT:=fun w hE h=>jor r (.agg #[.slice a r.rules.length ca,.slice b r.zones.length cb,.slice c r.links.length cc]) (jao r nm).name w hE h ok.ok ok.sm ok.on (by unfold maxLen;omega)
 have Kl:=hC.lt
 obtain⟨zn,yl⟩:=qeb ((jao r nm).name)
 have HX:=hid yl
 rw[yl]at hZ JR hT
 clear yl F0
 have ej:=hv.below aj
 have jx:=hE.of_below aj
 have HO:=hid ok
 obtain⟨x0,x1,x2,x3,r0,r1,f0,f1⟩:(fun z:World=>z.cell? (ad w.heap.size 0)=some (.slice a r.rules.length ca)/\z.cell? (ad w.heap.size 1)=some (.slice b r.zones.length cb)/\z.cell? (ad w.heap.size 2)=some (.slice c r.links.length cc)/\z.cell? (ad w.heap.size 3)=some (.map (some mb))/\z.cell? (ad (w.heap.size+1) 0)=some nS/\z.cell? (ad (w.heap.size+1) 1)=some (iv 0)/\z.frozen? (ad (w.heap.size+1) 0)=false/\z.frozen? (ad (w.heap.size+1) 1)=false) ((w.alloc (.cells #[.slice a r.rules.length ca,.slice b r.zones.length cb,.slice c r.links.length cc,.map (some mb)] 112)).alloc (.cells #[nS,iv 0] 140)):=by simp[go_sem]
 clear hv hE ok hr
 unfold Cl;go_in
 go_wp2_with fail
 refine(hZ _ jx ej).mono ?_
 rintro q w2 ⟨vz,rfl,_,ac⟩
 have qA:∀w:World,(Instr.field 81 (.agg #[.string zn,vz]) 0).run Tryz.prog w=.ok (.string zn) w:=fun _=>by kernel_rfl
 have an:=qtr aj ac
 have eQ:=ej.below ac
 have pB:=jx.of_below ac
 have y0:=jaa ac x0
 have y1:=jaa ac x1
 have y2:=jaa ac x2
 have y3:=jaa ac x3
 have s0:=jaa ac r0
 have s1:=jaa ac r1
 have g0:=qfz ac r0 f0
 have g1:=qfz ac r1 f1
 have hlt2:=qbl s0
 clear x0 x1 x2 x3 r0 r1 f0 f1 ac aj ej jx hZ
 obtain⟨t,z,gh,hz⟩:=hC.look2 an (s:=zn) (by unfold maxLen;omega)
 have HZ:=hid hz
 clear hz
 obtain⟨ta,tn,tc,tk⟩:=t
 simp only[TOut.v]at gh
 dsimp only at hlt2
 have ax:=an.alloc an.size (.cells #[.slice ta tn tc,iv tk] 140)
 have b3:=qal w2 (.cells #[.slice ta tn tc,iv tk] 140)
 cases z
 ·have hsz:=an.size
  have j5:=hT _ (pB.of_below b3) (eQ.below b3)
  have z0:=jaa b3 y0
  have z1:=jaa b3 y1
  have z2:=jaa b3 y2
  obtain⟨q0,q1,p0,p1⟩:(fun z:World=>z.cell? (ad w2.heap.size 0)=some (.slice ta tn tc)/\z.cell? (ad w2.heap.size 1)=some (iv tk)/\z.frozen? (ad w2.heap.size 0)=false/\z.frozen? (ad w2.heap.size 1)=false) (w2.alloc (.cells #[.slice ta tn tc,iv tk] 140)):=by simp[go_sem]
  have kN:(w2.alloc (.cells #[.slice ta tn tc,iv tk] 140)).heap.size=w2.heap.size+1:=by simp
  clear HZ hT
  go_wp2_with fail
  refine j5.mono ?_
  rintro q W4 hP
  obtain⟨v7,rfl,cj,aD⟩:=hP.ex
  obtain⟨a7,m7,d7,rfl⟩:=jad cj
  have rP:=hid cj
  obtain⟨jq,sL⟩:=qeb ((tabD r zn).1)
  have Ho:=hid sL
  rw[sL]
  clear sL hP cj
  have o0:=jaa aD q0
  have o1:=jaa aD q1
  have n0:=qfz aD q0 p0
  have n1:=qfz aD q1 p1
  have b4:Bw w2 W4:=qtr b3 aD
  have b5:Bw w2 ((W4.setCell (ad w2.heap.size 0) (.slice a7 m7 d7)).setCell (ad w2.heap.size 1) (iv jq)):=(b4.setCell (nlr _) _).setCell (nlr _) _
  have bG:=an.trans (b5.mono hsz)
  have c3:=jaa b5 y3
  have e0:=jaa b5 s0
  have e1:=jaa b5 s1
  have m0:=qfz b5 s0 g0
  have m1:=qfz b5 s1 g1
  obtain⟨u0,u1⟩:=jav (v0:=.slice a7 m7 d7) (v1:=iv jq) o0 o1
  obtain⟨W6,jk,mO,uU⟩:=hC.store2 (by unfold maxLen;omega) bG (s:=zn) (by unfold maxLen;omega) ⟨a7,m7,d7,jq⟩
  simp only[TOut.v]at jk
  have gH:w.heap.size<=w2.heap.size:=hsz
  have i0:=mO.grown.cell u0 (by simp;omega)
  have i1:=mO.grown.cell u1 (by simp;omega)
  have j0:=mO.grown.cell e0 (by simp;omega)
  have j1:=mO.grown.cell e1 (by simp;omega)
  have l0:=(mO.frozen (ad (w.heap.size+1) 0)).trans m0
  have l1:=(mO.frozen (ad (w.heap.size+1) 1)).trans m1
  have HP:Hid (TblP r nm mb mn w (.returned (.agg #[.slice a7 m7 d7,iv jq])) ((W6.setCell (ad (w.heap.size+1) 0) (.slice a7 m7 d7)).setCell (ad (w.heap.size+1) 1) (iv jq))):=by
   have G7:=jbz W6 (w.heap.size+1) (.slice a7 m7 d7) (iv jq)
   have Gw:w.grownBy ((W6.setCell (ad (w.heap.size+1) 0) (.slice a7 m7 d7)).setCell (ad (w.heap.size+1) 1) (iv jq)) (some mb):=(((jap bG).but _).andThen mO.grown (fun _ h=>.inr h)).andThen G7 (fun j h=>by injection h with h;omega)
   have hO:=rP.out
   have jg:=World.ownsRow.lt hO
   have hE:Jg ((W6.setCell (ad (w.heap.size+1) 0) (.slice a7 m7 d7)).setCell (ad (w.heap.size+1) 1) (iv jq)) ⟨a7,m7,d7,jq⟩ (tabD r zn):=by
    have k1:=World.ownsRow.kept hO (jbz W4 w2.heap.size (.slice a7 m7 d7) (iv jq)) (.inr fun h=>by have:=(jg _ h).1;omega)
    have k2:=World.ownsRow.kept k1 mO.grown (.inr fun h=>by have:=(jg _ h).1;omega)
    have k3:=World.ownsRow.kept k2 G7 (.inr fun h=>by have:=(jg _ h).1;omega)
    have k4:=ju2 (x:=tabD r zn) k3
    rw[Ho.out]at k4
    exact k4
   exact⟨⟨⟨a7,m7,d7,jq⟩,rfl,by rw[HX.out];exact hE⟩,uU _ _ G7 (by omega) Gw hE,Gw⟩
  obtain⟨t0,t1⟩:=jav (v0:=.slice a7 m7 d7) (v1:=iv jq) j0 j1
  clear uU mO aD b4 kN
  go_wp2
  exact bpr (v:=.agg #[.slice a7 m7 d7,iv jq]) (by simp[results,Tryz.results152,go_sem,t0,t1]) rfl HP.out
 ·have HT:=HZ.out rfl
  have cQ:w.heap.size<=w.heap.size+1:=by omega
  have lY:Bw w ((w2.setCell (ad (w.heap.size+1) 0) (.slice ta tn tc)).setCell (ad (w.heap.size+1) 1) (iv tk)):=(an.setCell cQ _).setCell cQ _
  have aR:=lY.alloc lY.size (.cells #[.slice ta tn tc,iv tk] 140)
  have HP:Hid (TblP r nm mb mn w (.returned (.agg #[.slice ta tn tc,iv tk])) (((w2.setCell (ad (w.heap.size+1) 0) (.slice ta tn tc)).setCell (ad (w.heap.size+1) 1) (iv tk)).alloc (.cells #[.slice ta tn tc,iv tk] 140))):=⟨⟨⟨ta,tn,tc,tk⟩,rfl,by rw[HX.out];exact HT.below aR⟩,(hC.below aR).mono (by omega),(jap aR).but _⟩
  obtain⟨t0,t1⟩:=jav (v0:=.slice ta tn tc) (v1:=iv tk) s0 s1
  have b5:=(brf _ ((w2.setCell (ad (w.heap.size+1) 0) (.slice ta tn tc)).setCell (ad (w.heap.size+1) 1) (iv tk))).alloc (nlr _) (.cells #[.slice ta tn tc,iv tk] 140)
  have rE:=jaa b5 t0
  have jp:=jaa b5 t1
  clear HZ hT
  go_wp2
  exact bpr (v:=.agg #[.slice ta tn tc,iv tk]) (by simp[results,Tryz.results152,go_sem,rE,jp]) rfl HP.out
end
section
open Go.RowKit Go.ChangeMaps Go.MapKept Go.WideMaps
structure ClkP(r:RelD)(a b c:Option Addr)(ca cb cc:Nat)(w:World)(q:Ending)(w':World):Prop where
 ex:q=.returned (.agg #[.slice a r.rules.length ca,.slice b r.zones.length cb,.slice c r.links.length cc,.map (some (w.heap.size+1+1))])
 cache:Zi w' (w.heap.size+1+1) 0 r
 bel:Bw w w'
theorem j17(w:World)(r:RelD){n:Nat}(h:w.heap.size=n):Zi (w.alloc (.map #[] 0)) n 0 r:=by subst h;exact Zi.made w r
theorem jmf(r:RelD)(a b c:Option Addr)(ca cb cc:Nat)(w:World):
  Cl 49 #[.agg #[.slice a r.rules.length ca,.slice b r.zones.length cb,.slice c r.links.length cc]] w (ClkP r a b c ca cb cc w):=by
 have gi:=@run_makeMap Tryz.prog
 unfold Cl;go_in
 go_wp2
 refine bpr (v:=.agg #[.slice a r.rules.length ca,.slice b r.zones.length cb,.slice c r.links.length cc,.map (some (w.heap.size+1+1))]) (by simp[results,Tryz.results49,go_sem]) rfl ⟨rfl,?_,?_⟩
 ·exact j17 _ r (by simp)
 ·exact((qal _ _).alloc (by simp) _).alloc (by simp;omega) _
