import Derived.Test.YtlmgdfoiejpbcaaGreatDoorSCd
import Derived.Test.YtlmgdfoiejpbcaaGreatDoorSBd
set_option maxRecDepth 100000
set_option maxHeartbeats 0
set_option linter.unusedSimpArgs false
namespace Go.Proofs.YtlmgdfoiejpbcaaGreatDoor
section
open Go.RowKit Go.ChangeMaps Go.MapKept
theorem jap{w w':World}(hb:Bw w w'):w.grownBy w' none:=⟨hb.os,hb.tape,hb.output,hb.size,fun k hk _=>hb.block k hk⟩
structure Tells(f:Int->Option EventD)(L:List EventD):Prop where
 id:∀i x,f i=some x->x.id=i
 mem:∀e,e∈L↔f e.id=some e
theorem jv8{D:DataW EventD}{f:Int->Option EventD}(h:MapV D f){x:Int}{c:EventD}(bE:∀z,D.atKey (.int .i64 x) z=.held c):f x=some c:=by
 cases hf:f x with
 |none=>
  have:=(h x c).2 hf
  rw[Maps.has_true_of_atKey bE]at this
  cases this
 |some e=>
  have:=((h x e).1 hf).2 (.held c)
  rw[bE]at this
  injection this with this
  rw[this]
theorem jk0{D:DataW EventD}{f:Int->Option EventD}(h:MapV D f){x:Int}{e:EventD}(hf:f x=some e):Maps.has D (.int .i64 x)=true:=((h x e).1 hf).1
theorem jit{left:Lit->Bool}{x y:Int}(h:(left (.int .i64 y)&& !Lit.sameKey (.int .i64 y) (.int .i64 x))=false):left (.int .i64 y)=false\/y=x:=by
 cases hl:left (.int .i64 y)
 ·exact .inl rfl
 ·rw[hl]at h
  by_cases e:y=x
  ·exact .inr e
  ·rw[Maps.sameKey_ne (fun h=>e (by simp only[Lit.int.injEq,true_and]at h;exact h))]at h
   cases h
theorem jgy(f:Int->Option EventD)(L:List EventD)(b n:Nat)(r:RelD)(v:Value)(w:World)(cg:Zx w)(hM:Zm w b n f)(hL:Tells f L)(hv:Zd w v r)(ok:Jk r)(hr:relB r=true):
  Cl 93 #[.map (some b),v] w fun e w'=>e=.returned (.bool (L.all fun x=>inR r x.zone))/\Bw w w':=by
 obtain⟨a,b2,c,ca,cb,cc,rfl,_,_,_⟩:=hv.form
 have ag:=qal w (.cells #[.slice a r.rules.length ca,.slice b2 r.zones.length cb,.slice c r.links.length cc] 38)
 have dD:=hM.alloc (.cells #[.slice a r.rules.length ca,.slice b2 r.zones.length cb,.slice c r.links.length cc] 38)
 have mt:=hM.lt
 obtain⟨D,ai,hD⟩:=dD.own
 have hZ:=fun nm w hE h=>jqk r (.agg #[.slice a r.rules.length ca,.slice b2 r.zones.length cb,.slice c r.links.length cc]) nm w hE h ok hr
 obtain⟨s0,s1,s2⟩:(fun z:World=>z.cell? (ad w.heap.size 0)=some (.slice a r.rules.length ca)/\z.cell? (ad w.heap.size 1)=some (.slice b2 r.zones.length cb)/\z.cell? (ad w.heap.size 2)=some (.slice c r.links.length cc)) (w.alloc (.cells #[.slice a r.rules.length ca,.slice b2 r.zones.length cb,.slice c r.links.length cc] 38)):=by simp[go_sem]
 have dQ:=hv.below ag
 have eu:=cg.of_below ag
 have HT:=hid hL
 have HD:=hid hD
 clear dD hM hL hv cg hD
 unfold Cl;go_in
 have dP:(w.alloc (.cells #[.slice a r.rules.length ca,.slice b2 r.zones.length cb,.slice c r.links.length cc] 38)).heap.size=w.heap.size+1:=by simp
 go_wp2_with (first
  |(at_range;refine wpList_range_own _ rfl _ 64 rfl 2 55 (Maps.int_keyed keyT) mapT jcy b n D rfl ai ?_;intro w0 kK kC aG)
  |go_in)
 go_frame
 generalize (w.alloc (.cells #[.slice a r.rules.length ca,.slice b2 r.zones.length cb,.slice c r.links.length cc] 38))=wb at *
 go_loopw [6] (fun _ wr=>∃(left:Lit->Bool) (jw:Nat),wr.ranges Tryz.prog 2 jcy b wb.heap.size n D left jw/\Hid (∀x e,f x=some e->left (.int .i64 x)=false->inR r e.zone=true)/\Bw wb wr) (fun _ wr=>wr.rangeLeft b wb.heap.size)
 case atStart=>exact⟨_,_,kK,fun x e hf hl=>by(rw[jk0 HD.out hf]at hl;cases hl),(brf _ _).grown kC (by omega) (fun k hk=>by cases hk)⟩
 case round=>
  obtain⟨wa,dS⟩:=qea wr
  subst dS
  obtain⟨left,jw,oH,HK,aK⟩:=hrel
  clear kK kC aG
  have cR:=ag.trans (aK.mono (by omega))
  have hsz:=aK.size
  have xd:=hid aK
  have HS:=hid dP
  clear dP
  go_wp2_with (first
   |(at_next;refine wpList_next_ranges _ rfl _ rfl 2 (Maps.int_keyed keyT) jcy (Value.int .i64) (fun c:EventD=>Value.agg #[.int .i64 c.id,.string c.name,.string c.zone,.int .i64 c.wall,.int .i64 c.gap,.int .i64 c.fold]) (fun key kl bS=>by(obtain⟨x,rfl,_⟩:=Maps.keyOf_int_inv keyT bS;exact⟨x,rfl⟩)) (fun v y hv=>by(obtain⟨c,rfl,_⟩:=jde hv;exact⟨c,rfl⟩)) b wb.heap.size n D left jw rfl oH ?_ ?_)
   |go_in)
  ·intro _ hl0
   have HF:Hid (L.all (fun x=>inR r x.zone)=true):=List.all_eq_true.mpr fun e he=>HK.out e.id e ((HT.out.mem e).mp he) (hl0 _)
   go_wp2
   go_ret
   exact⟨ret_bool HF.out.symm,cR⟩
  ·intro x c kl y ys w1 iS bS i8 ej bE hrg1 hlt cQ bU fi
   have HF:Hid (f x=some c/\c.id=x/\kl=.int .i64 x):=by
    obtain⟨x',ex,rfl,_⟩:=Maps.keyOf_int_inv keyT bS
    cases ex
    obtain⟨c',ec,ez⟩:=jde ej
    simp only[Prod.mk.injEq]at ez
    obtain⟨rfl,_⟩:=ez
    have:c'=c:=by cases c;cases c';simp only[EventD.v,Value.agg.injEq]at ec;simp_all
    subst this
    have h1:=jv8 HD.out bE
    exact⟨h1,HT.out.id _ _ h1,rfl⟩
   have aj:Bw wb w1:=xd.out.grown cQ hsz (fun k hk=>by(cases hk;exact nlr _))
   have an:=aj.alloc aj.size (.cells #[iv c.id,.string c.name,.string c.zone,iv c.wall,iv c.gap,iv c.fold] 55)
   have t0:=jaa an s0
   have t1:=jaa an s1
   have t2:=jaa an s2
   have xS:=hZ c.zone _ (eu.of_below an) (dQ.below an)
   have hrg2:=hrg1.alloc (.cells #[iv c.id,.string c.name,.string c.zone,iv c.wall,iv c.gap,iv c.fold] 55)
   clear ej bE bS cQ hZ
   cases hin:inR r c.zone
   ·have HA:Hid (L.all (fun x=>inR r x.zone)=false):=List.all_eq_false.mpr ⟨c,(HT.out.mem c).mpr (by rw[HF.out.2.1];exact HF.out.1),by rw[hin];simp⟩
    rw[hin]at xS
    clear hin
    go_wp2_with fail
    refine xS.mono ?_
    rintro e w2 ⟨rfl,ac⟩
    have ax:=ag.trans ((qtr an ac).mono (by rw[HS.out];omega))
    go_wp2
    go_ret
    exact⟨ret_bool HA.out.symm,ax⟩
   ·have HN:Hid (∀z e,f z=some e->(left (.int .i64 z)&& !Lit.sameKey (.int .i64 z) kl)=false->inR r e.zone=true):=by
     intro z e hf hl
     rw[HF.out.2.2]at hl
     rcases jit hl with h|rfl
     ·exact HK.out z e hf h
     ·rw[HF.out.1]at hf;cases hf;exact hin
    rw[hin]at xS
    clear hin
    go_wp2_with fail
    refine xS.mono ?_
    rintro e w2 ⟨rfl,ac⟩
    have ax:=qtr an ac
    have kM:=hrg2.kept (jap ac) (by simp) (by simp)
    have Hg:=hid ax
    go_wp2
    go_roundw
    case rel=>exact⟨_,iS,kM,HN,Hg.out⟩
    case measure=>rw[kM.left_eq,oH.left_eq];exact hlt
end
section
open Go.RowKit Go.ChangeMaps Go.MapKept
theorem jga(l:List VersionD):Tells (jch l) (jan l):=by
 refine⟨fun i x h=>?_,fun e=>liveL_mem⟩
 unfold jch at h
 cases hk:jci l i with
 |none=>rw[hk]at h;cases h
 |some k=>
  obtain⟨_,⟨v,hv,iK⟩,_⟩:=jdc hk
  rw[hk]at h
  simp only[hv]at h
  split at h
  ·cases h
  ·cases h;exact iK
theorem jzj{w:World}{b n:Nat}{D:DataW EventD}(h:w.ownsMap Tryz.prog 2 jcy b n D):∃es,D=.map es/\es.Pairwise (fun p q=>p.1≠q.1)/\∀p∈es,(∃x,p.1=.int .i64 x)/\Maps.has D p.1=true:=by
 obtain⟨IH,hD,hp,hk⟩:=h.entries (Maps.int_keyed keyT)
 refine⟨IH,hD,hp,fun p oE=>⟨?_,?_⟩⟩
 ·obtain⟨es,aZ,_,F,_,sd⟩:=h
  rw[hD]at sd
  injection sd with sd
  rw[sd]at oE
  obtain⟨x,hx,rfl⟩:=List.mem_map.1 (mem_sorted.1 oE)
  obtain⟨y,hy⟩:=F.reads x hx
  rw[WideElems.rg_of hy]
  obtain⟨z,_,h2,_⟩:=Maps.keyOf_int_inv keyT (WideElems.rd_key hy)
  exact⟨z,h2⟩
 ·rw[hD,Maps.has_eq]
  exact List.any_eq_true.2 ⟨p,oE,WideAt.sameKey_self (hk p oE)⟩
theorem jia{w:World}{b n:Nat}{f:Int->Option EventD}{L:List EventD}{D:DataW EventD}(h:w.ownsMap Tryz.prog 2 jcy b n D)(hV:MapV D f)(hT:Tells f L)(hL:L.Pairwise fun x y=>x.id<y.id):Maps.size D=L.length:=by
 obtain⟨es,hD,hp,hk⟩:=jzj h
 have d1:(es.map fun p=>p.1).Nodup:=List.pairwise_map.mpr hp
 have d2:(L.map fun e=>Lit.int .i64 e.id).Nodup:=List.pairwise_map.mpr (hL.imp fun {x y} gI h=>by simp only[Lit.int.injEq,true_and]at h;omega)
 have vr:(es.map fun p=>p.1).Perm (L.map fun e=>Lit.int .i64 e.id):=(List.perm_ext_iff_of_nodup d1 d2).mpr fun kl=>by
  constructor
  ·intro hm
   obtain⟨p,oE,rfl⟩:=List.mem_map.mp hm
   obtain⟨⟨x,hx⟩,hh⟩:=hk p oE
   rw[hx]at hh ⊢
   cases hf:f x with
   |none=>rw[(hV x ⟨0,⟨#[]⟩,⟨#[]⟩,0,0,0⟩).2 hf]at hh;cases hh
   |some e=>
    have hi:=hT.id x e hf
    exact List.mem_map.mpr ⟨e,(hT.mem e).mpr (by rw[hi];exact hf),by rw[hi]⟩
  ·intro hm
   obtain⟨e,he,rfl⟩:=List.mem_map.mp hm
   have hh:=((hV e.id e).1 ((hT.mem e).mp he)).1
   rw[hD,Maps.has_eq]at hh
   obtain⟨p,oE,Ct⟩:=List.any_eq_true.1 hh
   exact List.mem_map.mpr ⟨p,oE,WideAt.sameKey_eq Ct⟩
 have:=vr.length_eq
 rw[llm,llm]at this
 rw[hD,Maps.size_eq,this]
end
section
open Go.RowKit Go.ChangeMaps Go.MapKept
def jnr(s:StoreD)(L:List EventD):Bool:=decide (L.length<=30)&&((L.all fun x=>inR s.now x.zone)&&(decide (s.cur=0) || (L.all fun x=>inR s.was x.zone)))
theorem jtg(s:StoreD)(L:List EventD):jnr s L=(decide (L.length<=30)&&L.all fun x=>jdv s x.zone):=by
 unfold jnr
 congr 1
 unfold jdv
 induction L with
 |nil=>simp
 |cons x L ih=>
  simp only[List.all_cons]
  rw[<- ih]
  cases inR s.now x.zone<;>cases decide (s.cur=0)<;>cases inR s.was x.zone<;>cases (L.all fun x=>inR s.now x.zone)<;>cases (L.all fun x=>inR s.was x.zone)<;>rfl
theorem jkd(s:StoreD)(v:Value)(F:Int->Option EventD)(L:List EventD)(mb mn:Nat)(w:World)(hE:Zx w)(hv:Jd w v s)(ok:Zr s)(hM:Zm w mb mn F)(hT:Tells F L)(hL:L.Pairwise fun x y=>x.id<y.id)(lE:mn<=1048576)(oG:relB s.now=true)(dC:relB s.was=true):
  Cl 55 #[v,.map (some mb)] w fun e w'=>e=.returned (.bool (jnr s L))/\Bw w w':=by
 obtain⟨a,b,c,d,e,f,va,ia,ca,cb,cc,cd,ce,cf,cv,ci,rfl,hN,hW,_,_,_,_⟩:=hv.form
 have ag:=qal w (.cells #[iv s.tx,.slice a s.now.rules.length ca,.slice b s.now.zones.length cb,.slice c s.now.links.length cc,.slice d s.was.rules.length cd,.slice e s.was.zones.length ce,.slice f s.was.links.length cf,iv s.cur,.slice va s.vs.length cv,.slice ia s.ix.length ci] 42)
 have hF:=fun w hE hM h=>jgy F L mb mn s.now (.agg #[.slice a s.now.rules.length ca,.slice b s.now.zones.length cb,.slice c s.now.links.length cc]) w hE hM hT h ok.now oG
 have hG:=fun w hE hM h=>jgy F L mb mn s.was (.agg #[.slice d s.was.rules.length cd,.slice e s.was.zones.length ce,.slice f s.was.links.length cf]) w hE hM hT h ok.was dC
 have fU:=hN.below ag
 have j6:=hW.below ag
 have eu:=hE.of_below ag
 have dD:=hM.below ag
 have au:∀ty,(Builtin.len_ #[64] ty #[.map (some mb)]).run Tryz.prog (w.alloc (.cells #[iv s.tx,.slice a s.now.rules.length ca,.slice b s.now.zones.length cb,.slice c s.now.links.length cc,.slice d s.was.rules.length cd,.slice e s.was.zones.length ce,.slice f s.was.links.length cf,iv s.cur,.slice va s.vs.length cv,.slice ia s.ix.length ci] 42))=.ok (iv L.length) (w.alloc (.cells #[iv s.tx,.slice a s.now.rules.length ca,.slice b s.now.zones.length cb,.slice c s.now.links.length cc,.slice d s.was.rules.length cd,.slice e s.was.zones.length ce,.slice f s.was.links.length cf,iv s.cur,.slice va s.vs.length cv,.slice ia s.ix.length ci] 42)):=fun ty=>by
  obtain⟨D,h1,h2⟩:=dD.own
  rw[<- jia h1 h2 hT hL]
  exact h1.len mapT ty
 have i9:L.length<=1048576:=by
  obtain⟨D,h1,h2⟩:=dD.own
  have:=h1.size_le
  rw[jia h1 h2 hT hL]at this
  omega
 unfold jnr
 clear hv ok hN hW hE oG dC hM hT hL lE
 generalize (L.all fun x=>inR s.now x.zone)=pb at *
 generalize (L.all fun x=>inR s.was x.zone)=qb at *
 generalize L.length=ln at *
 obtain⟨tx,now,was,cur,vs,ix⟩:=s
 dsimp only at *
 by_cases lm:ln<=30
 ·have J4:(ln:Int)<=30:=by omega
  rw[dte lm]
  cases pb
  ·unfold Cl;go_in
   go_wp2_with fail
   refine(hF _ eu dD fU).mono ?_
   rintro e' w1 ⟨rfl,hb1⟩
   go_wp2
   go_ret
   exact⟨rfl,ag.trans (hb1.mono (by simp))⟩
  by_cases kA:cur=0
  ·subst kA
   unfold Cl;go_in
   go_wp2_with fail
   refine(hF _ eu dD fU).mono ?_
   rintro e' w1 ⟨rfl,hb1⟩
   have x7:w1.cell? (ad w.heap.size 7)=some (iv 0):=jaa hb1 (by simp[go_sem])
   go_wp2
   go_ret
   exact⟨rfl,ag.trans (hb1.mono (by simp))⟩
  rw[dfe kA]
  have aX:(cur==0)=false:=by simp[kA]
  unfold Cl;go_in
  go_wp2_with fail
  refine(hF _ eu dD fU).mono ?_
  rintro e' w1 ⟨rfl,hb1⟩
  have x7:w1.cell? (ad w.heap.size 7)=some (iv cur):=jaa hb1 (by simp[go_sem])
  have x4:w1.cell? (ad w.heap.size 4)=some (.slice d was.rules.length cd):=jaa hb1 (by simp[go_sem])
  have x5:w1.cell? (ad w.heap.size 5)=some (.slice e was.zones.length ce):=jaa hb1 (by simp[go_sem])
  have x6:w1.cell? (ad w.heap.size 6)=some (.slice f was.links.length cf):=jaa hb1 (by simp[go_sem])
  have j7:=j6.below hb1
  have jx:=eu.of_below hb1
  have gR:=dD.below hb1
  have aj:=ag.trans (hb1.mono (by simp))
  clear ag hb1 j6 fU eu dD au
  go_wp2_with fail
  refine(hG _ jx gR j7).mono ?_
  rintro e' w2 ⟨rfl,ac⟩
  have an:=qtr aj ac
  go_wp2
  go_ret
  exact⟨ret_bool (by simp),an⟩
 ·have J4:¬(ln:Int)<=30:=by omega
  rw[dfe lm]
  unfold Cl;go_in
  go_wp2
  go_ret
  exact⟨rfl,ag⟩
