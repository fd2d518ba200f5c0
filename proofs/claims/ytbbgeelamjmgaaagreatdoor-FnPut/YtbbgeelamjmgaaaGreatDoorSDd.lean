import Derived.Test.YtbbgeelamjmgaaaGreatDoorSCd
import Derived.Test.YtbbgeelamjmgaaaGreatDoorSBd
import Derived.Test.YtbbgeelamjmgaaaGreatDoorTbSd
set_option maxRecDepth 100000
set_option maxHeartbeats 0
set_option linter.unusedSimpArgs false
namespace Go.Proofs.YtbbgeelamjmgaaaGreatDoor
variable{w w':World}{b n:Nat}{r:ZW}
section
open Go.RowKit Go.ChangeMaps Go.MapKept
theorem jap(hb:Bw w w'):w.grownBy w' none:=⟨hb.os,hb.tape,hb.output,hb.size,λk hk _=>hb.block k hk⟩
structure vbb(f:Int->Option Ze)(L:List Ze):Prop where
 id:∀i x,f i=some x->x.id=i
 mem:∀e,e∈L↔f e.id=some e
theorem jv8{D:DataW Ze}{f:Int->Option Ze}(h:vdj D f){x:Int}{c:Ze}(bE:∀z,D.atKey (.int .i64 x) z=.held c):f x=some c:=by
 cases hf:f x with
 |none=>
  have:=(h x c).2 hf;rw[Maps.has_true_of_atKey bE]at this;cases this
 |some e=>
  have:=((h x e).1 hf).2 (.held c);rw[bE]at this;injection this with this
  rw[this]
theorem jk0{D:DataW Ze}{f:Int->Option Ze}(h:vdj D f){x:Int}{e:Ze}(hf:f x=some e):Maps.has D (.int .i64 x)=true:=((h x e).1 hf).1
theorem jit{left:Lit->Bool}{x y:Int}(h:(left (.int .i64 y)&& !Lit.sameKey (.int .i64 y) (.int .i64 x))=false):left (.int .i64 y)=false\/y=x:=by
 cases hl:left (.int .i64 y)
 .exact .inl rfl
 .rw[hl]at h
  by_cases e:y=x
  .exact .inr e
  .rw[Maps.sameKey_ne (λh=>e (by simp only[Lit.int.injEq,true_and]at h;exact h))]at h
   cases h
theorem jgy(f:Int->Option Ze)(L:List Ze)(b n:Nat)(r:ZW)(v:Value)(w:World)(cg:Zx w)(hM:Zm w b n f)(hL:vbb f L)(hv:Zd w v r)(ok:Jk r)(hr:ZZ r=true):
  C 87 #[.map (some b),v] w λe w'=>e=V (.bool (L.all λx=>inR r x.YZ))/\Bw w w':=by
 obtain⟨a,b2,c,ca,cb,cc,rfl,_,_,_⟩:=hv.form;have ag:=ZA w (G #[U a r.Vv.length ca,U b2 r.YU.length cb,U c r.YW.length cc] 27);have dD:=hM.alloc (G #[U a r.Vv.length ca,U b2 r.YU.length cb,U c r.YW.length cc] 27);have mt:=hM.lt;have⟨D,ai,hD⟩:=dD.own;have hZ:=λnm w hE h=>jqk r (.agg #[U a r.Vv.length ca,U b2 r.YU.length cb,U c r.YW.length cc]) nm w hE h ok hr
 obtain⟨s0,s1,s2⟩:(λz:World=>z.cell? (O w.heap.size 0)=some (U a r.Vv.length ca)/\z.cell? (O w.heap.size 1)=some (U b2 r.YU.length cb)/\z.cell? (O w.heap.size 2)=some (U c r.YW.length cc)) (w.alloc (G #[U a r.Vv.length ca,U b2 r.YU.length cb,U c r.YW.length cc] 27)):=RQ;have dQ:=hv.below ag;have eu:=cg.of_below ag;have HT:=hid hL;have HD:=hid hD;clear dD hM hL hv cg hD;unfold C;go_in;have dP:(w.alloc (G #[U a r.Vv.length ca,U b2 r.YU.length cb,U c r.YW.length cc] 27)).heap.size=w.heap.size+1:=M
 go_wp2_with (first
  |(at_range;refine wpList_range_own _ rfl _ 65 rfl 2 33 (Maps.int_keyed vaw) vbV jcy b n D rfl ai ?_;intro w0 kK kC aG)
  |go_in)
 go_frame;generalize (w.alloc (G #[U a r.Vv.length ca,U b2 r.YU.length cb,U c r.YW.length cc] 27))=wb at *;go_loopw [6] (λ_ wr=>∃(left:Lit->Bool) (jw:Nat),wr.ranges Tryz.prog 2 jcy b wb.heap.size n D left jw/\Hid (∀x e,f x=some e->left (.int .i64 x)=false->inR r e.YZ=true)/\Bw wb wr) (λ_ wr=>wr.rangeLeft b wb.heap.size)
 .exact⟨_,_,kK,λx e hf hl=>by(rw[jk0 HD.out hf]at hl;cases hl),(ZU _ _).grown kC Q (λk hk=>by cases hk)⟩
 ·
  have⟨wa,dS⟩:=wL wr;subst dS;have⟨left,jw,oH,HK,aK⟩:=hrel;clear kK kC aG;have cR:=ag.trans (aK.mono Q);have hsz:=aK.size;have xd:=hid aK;have HS:=hid dP;clear dP
  go_wp2_with (first
   |(at_next;refine wpList_next_ranges _ rfl _ rfl 2 (Maps.int_keyed vaw) jcy (Value.int .i64) (λc:Ze=>Value.agg #[.int .i64 c.id,.string c.name,.string c.YZ,.int .i64 c.YV,.int .i64 c.Zz,.int .i64 c.Zu]) (λkey kl bS=>by(obtain⟨x,rfl,_⟩:=Maps.keyOf_int_inv vaw bS;exact⟨x,rfl⟩)) (λv y hv=>by(obtain⟨c,rfl,_⟩:=jde hv;exact⟨c,rfl⟩)) b wb.heap.size n D left jw rfl oH ?_ ?_)
   |go_in)
  .intro _ rv
   have HF:Hid (L.all (λx=>inR r x.YZ)=true):=List.all_eq_true.mpr λe he=>HK.out e.id e ((HT.out.mem e).mp he) (rv _)
   go_wp2;go_ret;exact⟨ZG HF.out.symm,cR⟩
  .intro x c kl y ys w1 iS bS i8 ej bE hrg1 hlt cQ bU fi
   have HF:Hid (f x=some c/\c.id=x/\kl=.int .i64 x):=by
    obtain⟨x',ex,rfl,_⟩:=Maps.keyOf_int_inv vaw bS;cases ex
    have⟨c',ec,ez⟩:=jde ej;simp only[Prod.mk.injEq]at ez;obtain⟨rfl,_⟩:=ez;have:c'=c:=by cases c;cases c';simp only[Ze.v,Value.agg.injEq]at ec;simp_all
    subst this;have h1:=jv8 HD.out bE;exact⟨h1,HT.out.id _ _ h1,rfl⟩
   have aj:Bw wb w1:=xd.out.grown cQ hsz (λk hk=>by(cases hk;exact ZD _));have an:=aj.alloc aj.size (G #[J c.id,I c.name,I c.YZ,J c.YV,J c.Zz,J c.Zu] 33);have t0:=YR an s0;have t1:=YR an s1;have t2:=YR an s2;have xS:=hZ c.YZ _ (eu.of_below an) (dQ.below an);have hrg2:=hrg1.alloc (G #[J c.id,I c.name,I c.YZ,J c.YV,J c.Zz,J c.Zu] 33);clear ej bE bS cQ hZ;cases hin:inR r c.YZ
   .have HA:Hid (L.all (λx=>inR r x.YZ)=false):=List.all_eq_false.mpr ⟨c,(HT.out.mem c).mpr (by rw[HF.out.2.1];exact HF.out.1),by rw[hin];simp⟩
    rw[hin]at xS;clear hin;go_wp2_with fail;refine xS.mono ?_;rintro e w2 ⟨rfl,ac⟩;have ax:=ag.trans ((Zp an ac).mono (by rw[HS.out];omega));go_wp2;go_ret;exact⟨ZG HA.out.symm,ax⟩
   .have HN:Hid (∀z e,f z=some e->(left (.int .i64 z)&& !Lit.sameKey (.int .i64 z) kl)=false->inR r e.YZ=true):=by
     intro z e hf hl;rw[HF.out.2.2]at hl;rcases jit hl with h|rfl
     .exact HK.out z e hf h
     .rw[HF.out.1]at hf;cases hf;exact hin
    rw[hin]at xS;clear hin;go_wp2_with fail;refine xS.mono ?_;rintro e w2 ⟨rfl,ac⟩;have ax:=Zp an ac;have kM:=hrg2.kept (jap ac) M M;have Hg:=hid ax;go_wp2;go_roundw
    .exact⟨_,iS,kM,HN,Hg.out⟩
    .rw[kM.left_eq,oH.left_eq];exact hlt
end
section
open Go.RowKit Go.ChangeMaps Go.MapKept
theorem jga(l:List ZN):vbb (AY l) (ZJ l):=by
 refine⟨λi x h=>?_,λe=>va8⟩;unfold AY at h;cases hk:jci l i with
 |none=>rw[hk]at h;cases h
 |some k=>
  have⟨_,⟨v,hv,iK⟩,_⟩:=jdc hk;rw[hk]at h;simp only[hv]at h;split at h
  .cases h
  .cases h;exact iK
theorem jzj{D:DataW Ze}(h:w.ownsMap Tryz.prog 2 jcy b n D):∃es,D=.map es/\es.Pairwise (λp q=>p.1≠q.1)/\∀p∈es,(∃x,p.1=.int .i64 x)/\Maps.has D p.1=true:=by
 have⟨IH,hD,hp,hk⟩:=h.entries (Maps.int_keyed vaw);refine⟨IH,hD,hp,λp oE=>⟨?_,?_⟩⟩
 .have⟨es,aZ,_,F,_,sd⟩:=h
  rw[hD]at sd;injection sd with sd
  rw[sd]at oE;obtain⟨x,hx,rfl⟩:=List.mem_map.1 (mem_sorted.1 oE);have⟨y,hy⟩:=F.reads x hx;rw[WideElems.rg_of hy];have⟨z,_,h2,_⟩:=Maps.keyOf_int_inv vaw (WideElems.rd_key hy);exact⟨z,h2⟩
 .rw[hD,Maps.has_eq]
  exact List.any_eq_true.2 ⟨p,oE,WideAt.sameKey_self (hk p oE)⟩
theorem jia{f:Int->Option Ze}{L:List Ze}{D:DataW Ze}(h:w.ownsMap Tryz.prog 2 jcy b n D)(hV:vdj D f)(hT:vbb f L)(hL:L.Pairwise λx y=>x.id<y.id):Maps.size D=L.length:=by
 have⟨es,hD,hp,hk⟩:=jzj h;have d1:(es.map λp=>p.1).Nodup:=List.pairwise_map.mpr hp;have d2:(L.map λe=>Lit.int .i64 e.id).Nodup:=List.pairwise_map.mpr (hL.imp λ{x y} gI h=>by simp only[Lit.int.injEq,true_and]at h;omega);have vr:(es.map λp=>p.1).Perm (L.map λe=>Lit.int .i64 e.id):=(List.perm_ext_iff_of_nodup d1 d2).mpr λkl=>by
  constructor
  .intro hm
   obtain⟨p,oE,rfl⟩:=List.mem_map.mp hm;have⟨⟨x,hx⟩,hh⟩:=hk p oE;rw[hx]at hh ⊢;cases hf:f x with
   |none=>rw[(hV x ⟨0,⟨#[]⟩,⟨#[]⟩,0,0,0⟩).2 hf]at hh;cases hh
   |some e=>
    have hi:=hT.id x e hf;exact List.mem_map.mpr ⟨e,(hT.mem e).mpr (by rw[hi];exact hf),by rw[hi]⟩
  .intro hm
   obtain⟨e,he,rfl⟩:=List.mem_map.mp hm;have hh:=((hV e.id e).1 ((hT.mem e).mp he)).1;rw[hD,Maps.has_eq]at hh;have⟨p,oE,Ct⟩:=List.any_eq_true.1 hh;exact List.mem_map.mpr ⟨p,oE,WideAt.sameKey_eq Ct⟩
 have:=vr.length_eq;rw[BX,BX]at this;rw[hD,Maps.size_eq,this]
end
section
open Go.RowKit Go.ChangeMaps Go.MapKept
def jnr(s:ZP)(L:List Ze):Bool:=decide (L.length<=30)&&((L.all λx=>inR s.YT x.YZ)&&(decide (s.cur=0) || (L.all λx=>inR s.YS x.YZ)))
theorem jtg(s:ZP)(L:List Ze):jnr s L=(decide (L.length<=30)&&L.all λx=>jdv s x.YZ):=by
 unfold jnr
 congr 1
 unfold jdv
 induction L with
 |nil=>simp
 |cons x L ih=>
  simp only[List.all_cons];rw[<- ih];cases inR s.YT x.YZ<;>cases decide (s.cur=0)<;>cases inR s.YS x.YZ<;>cases (L.all λx=>inR s.YT x.YZ)<;>cases (L.all λx=>inR s.YS x.YZ)<;>rfl
theorem jkd(s:ZP)(v:Value)(F:Int->Option Ze)(L:List Ze)(mb mn:Nat)(w:World)(hE:Zx w)(hv:Jd w v s)(ok:Zr s)(hM:Zm w mb mn F)(hT:vbb F L)(hL:L.Pairwise λx y=>x.id<y.id)(lE:mn<=1048576)(oG:ZZ s.YT=true)(dC:ZZ s.YS=true):
  C 51 #[v,.map (some mb)] w λe w'=>e=V (.bool (jnr s L))/\Bw w w':=by
 obtain⟨a,b,c,d,e,f,va,ia,ca,cb,cc,cd,ce,cf,cv,ci,rfl,hN,hW,_,_,_,_⟩:=hv.form;have ag:=ZA w (G #[J s.tx,U a s.YT.Vv.length ca,U b s.YT.YU.length cb,U c s.YT.YW.length cc,U d s.YS.Vv.length cd,U e s.YS.YU.length ce,U f s.YS.YW.length cf,J s.cur,U va s.vs.length cv,U ia s.ix.length ci] 31);have hF:=λw hE hM h=>jgy F L mb mn s.YT (.agg #[U a s.YT.Vv.length ca,U b s.YT.YU.length cb,U c s.YT.YW.length cc]) w hE hM hT h ok.YT oG
 have hG:=λw hE hM h=>jgy F L mb mn s.YS (.agg #[U d s.YS.Vv.length cd,U e s.YS.YU.length ce,U f s.YS.YW.length cf]) w hE hM hT h ok.YS dC
 have fU:=hN.below ag;have j6:=hW.below ag;have eu:=hE.of_below ag;have dD:=hM.below ag;have au:∀ty,(Builtin.len_ #[65] ty #[.map (some mb)]).run Tryz.prog (w.alloc (G #[J s.tx,U a s.YT.Vv.length ca,U b s.YT.YU.length cb,U c s.YT.YW.length cc,U d s.YS.Vv.length cd,U e s.YS.YU.length ce,U f s.YS.YW.length cf,J s.cur,U va s.vs.length cv,U ia s.ix.length ci] 31))=.ok (J L.length) (w.alloc (G #[J s.tx,U a s.YT.Vv.length ca,U b s.YT.YU.length cb,U c s.YT.YW.length cc,U d s.YS.Vv.length cd,U e s.YS.YU.length ce,U f s.YS.YW.length cf,J s.cur,U va s.vs.length cv,U ia s.ix.length ci] 31)):=λty=>by
  have⟨D,h1,h2⟩:=dD.own;rw[<- jia h1 h2 hT hL];exact h1.len vbV ty
 have i9:L.length<=1048576:=by
  have⟨D,h1,h2⟩:=dD.own;have:=h1.size_le;rw[jia h1 h2 hT hL]at this;omega
 unfold jnr;clear hv ok hN hW hE oG dC hM hT hL lE;generalize (L.all λx=>inR s.YT x.YZ)=pb at *;generalize (L.all λx=>inR s.YS x.YZ)=qb at *;generalize L.length=ln at *;obtain⟨tx,YT,YS,cur,vs,ix⟩:=s;dsimp only at *;by_cases lm:ln<=30
 .have J4:(ln:Int)<=30:=Q
  rw[rT lm];cases pb
  .unfold C;go_in
   go_wp2_with fail;refine(hF _ eu dD fU).mono ?_;rintro e' w1 ⟨rfl,hb1⟩;go_wp2;go_ret;exact⟨rfl,ag.trans (hb1.mono M)⟩
  by_cases kA:cur=0
  .subst kA
   unfold C;go_in;go_wp2_with fail;refine(hF _ eu dD fU).mono ?_;rintro e' w1 ⟨rfl,hb1⟩;have x7:w1.cell? (O w.heap.size 7)=some (J 0):=YR hb1 RQ;go_wp2;go_ret;exact⟨rfl,ag.trans (hb1.mono M)⟩
  rw[dfe kA];have aX:(cur==0)=false:=by simp[kA]
  unfold C;go_in;go_wp2_with fail;refine(hF _ eu dD fU).mono ?_;rintro e' w1 ⟨rfl,hb1⟩;have x7:w1.cell? (O w.heap.size 7)=some (J cur):=YR hb1 RQ;have x4:w1.cell? (O w.heap.size 4)=some (U d YS.Vv.length cd):=YR hb1 RQ;have x5:w1.cell? (O w.heap.size 5)=some (U e YS.YU.length ce):=YR hb1 RQ;have x6:w1.cell? (O w.heap.size 6)=some (U f YS.YW.length cf):=YR hb1 RQ;have j7:=j6.below hb1;have jx:=eu.of_below hb1;have gR:=dD.below hb1;have aj:=ag.trans (hb1.mono M);clear ag hb1 j6 fU eu dD au;go_wp2_with fail;refine(hG _ jx gR j7).mono ?_;rintro e' w2 ⟨rfl,ac⟩;have an:=Zp aj ac;go_wp2;go_ret;exact⟨ZG M,an⟩
 .have J4:¬(ln:Int)<=30:=Q
  rw[dfe lm];unfold C;go_in;go_wp2;go_ret;exact⟨rfl,ag⟩
end
section
open Go.RowKit Go.ChangeMaps Go.MapKept Go.WideMaps
structure MW where
 a:Option Addr
 n:Nat
 c:Nat
 code:Int
def MW.v(t:MW):Value:=.agg #[U t.a t.n t.c,J t.code]
def jrd:Value->Option (DataW MW × List MemPlace)
 |.agg ⟨[.slice a n c,.int .i64 k]⟩=>some (.held ⟨a,n,c,k⟩,[])
 |_=>none
theorem jm0(t:MW):jrd t.v=some (.held t,[]):=by cases t;rfl
theorem jss{v:Value}{z:DataW MW × List MemPlace}(h:jrd v=some z):∃t:MW,v=t.v/\z=(.held t,[]):=by
 unfold jrd at h;split at h
 .cases h;exact⟨_,rfl,rfl⟩
 .cases h
structure Jg(w:World)(t:MW)(x:Int × List ZK):Prop where
 code:t.code=x.1
 n:t.n=x.2.length
 seq:Za w t.a 4 (x.2.map ZK.cs)
 typ:∀b o,t.a=some (O b o)->∃cs,w.heap[b]? =some (G cs 195 (0,0))
theorem jrt{es:Array MapEntry}{aZ:Nat}(h:w.heap[b]? =some (.map es aZ))(o:Nat):w.cell? (O b o)=none:=by
 simp[World.cell?,h]
theorem j0h{u s:ByteArray}(h:u.data.toList=s.data.toList):u=s:=by
 have h2:=Array.toList_inj.mp h;cases u;cases s
 simp only at h2;rw[h2]
theorem Jg.grown{row:Option Nat}{t:MW}{x:Int × List ZK}(h:Jg w t x)(hg:w.grownBy w' row)(az:∀b cs,w.heap[b]? =some (G cs 195 (0,0))->some b≠row):Jg w' t x:=by
 refine⟨h.code,h.n,?_,λb o hb=>?_⟩
 .rcases h.seq with h0|⟨b,o,ha,hc⟩
  .exact .inl h0
  .have⟨cs,rB⟩:=h.typ b o ha
   exact .inr ⟨b,o,ha,λi j r c hr hj=>hg.cell (hc i j r c hr hj) (az b cs rB)⟩
 .have⟨cs,rB⟩:=h.typ b o hb
  exact⟨cs,(hg.block b (Array.getElem?_eq_some_iff.1 rB).1 (az b cs rB)).trans rB⟩
theorem Jg.below{t:MW}{x:Int × List ZK}(h:Jg w t x)(hb:Bw w w'):Jg w' t x:=h.grown (jap hb) (λ_ _ _=>M)
structure Zi(w:World)(b n:Nat)(r:ZW):Prop where
 own:∃D,w.ownsMap Tryz.prog 9 jrd b n D/\∀s:ByteArray,Maps.has D (.string s.data.toList)=true->∃t,(∀z,D.atKey (.string s.data.toList) z=.held t)/\Jg w t (uC r s)
theorem j3g:Tryz.prog.underlying 66=some (.map 9 160):=RG
theorem vdv:Tryz.prog.underlying 9=some .string:=RG
theorem jue(w:World):(zeroValue 160).run Tryz.prog w=.ok (MW.v ⟨none,0,0,0⟩) w:=RG
theorem Zi.made(w:World)(r:ZW):Zi (w.alloc (.map #[] 0)) w.heap.size 0 r:=⟨_,World.ownsMap_made w _ _ _,λs h=>by cases h⟩
theorem Zi.lt(h:Zi w b n r):b<w.heap.size:=by
 have⟨D,h1,_⟩:=h.own;exact h1.lt
theorem Zi.blk(h:Zi w b n r):∀b' cs,w.heap[b']? =some (G cs 195 (0,0))->some b'≠some b:=by
 have⟨D,⟨es,aZ,hb,_⟩,_⟩:=h.own;intro b' cs h1 h2;injection h2 with h2
 subst h2;rw[hb]at h1;cases h1
theorem Zi.grown{g:Nat}(h:Zi w b n r)(hg:w.grownBy w' (some g))(jG:b≠g)(az:∀cs,w.heap[g]? ≠some (G cs 195 (0,0))):Zi w' b n r:=by
 have⟨D,h1,h2⟩:=h.own;refine⟨D,h1.kept hg (by simpa using jG),λs hs=>?_⟩;have⟨t,ht,hE⟩:=h2 s hs;exact⟨t,ht,hE.grown hg (λb' cs hc e=>by injection e with e;subst e;exact az cs hc)⟩
theorem Zi.cell(h:Zi w b n r)(o:Nat):w.cell? (O b o)=none:=by
 have⟨D,⟨es,aZ,hb,_⟩,_⟩:=h.own;exact jrt hb o
theorem Zi.below(h:Zi w b n r)(hb:Bw w w'):Zi w' b n r:=by
 have⟨D,h1,h2⟩:=h.own;refine⟨D,h1.kept (jap hb) M,λs hs=>?_⟩;have⟨t,ht,hE⟩:=h2 s hs;exact⟨t,ht,hE.below hb⟩
end
section
open Go.RowKit Go.ChangeMaps Go.MapKept Go.WideMaps
theorem Zi.vhT{w2:World}(h:Zi w b n r)(hb:Bw w w2){s:ByteArray}(hs:s.size<=maxLen):∃(t:MW) (z:Bool),(Instr.lookup 66 (.map (some b)) (I s) true).run Tryz.prog w2=.ok (.tuple #[t.v,.bool z]) w2/\(z=true->Jg w t (uC r s)):=by
 have⟨D,h1,h2⟩:=h.own;have⟨v,ps,hr,hv⟩:=(h1.kept (jap hb) M).look_ok (Maps.string_keyed vdv) j3g (jue w2) (jm0 _) (keyOf_string_mk vdv hs);obtain⟨t,rfl,he⟩:=jss hv;refine⟨t,_,hr,λhz=>?_⟩;have⟨t',ht,hE⟩:=h2 s hz;rw[ht]at he;have h3:=congrArg Prod.fst he;simp only[DataW.held.injEq]at h3;rw[<- h3];exact hE
theorem Zi.vja{W5:World}(h:Zi w b n r)(hn:n<maxLen)(hb:Bw w W5){s:ByteArray}(hs:s.size<=maxLen)(t:MW):∃W6,(Instr.mapUpdate 66 (.map (some b)) (I s) t.v).run Tryz.prog W5=.ok () W6/\W5.mapTurned W6 b/\∀W7 g,W6.grownBy W7 (some g)->g≠b->w.grownBy W7 (some b)->Jg W7 t (uC r s)->Zi W7 b (n+1) r:=by
 have T9:=h.blk;have⟨D,h1,h2⟩:=h.own;have hM:=h1.isMap;have SZ:WideAt.IsKeyLit (.string s.data.toList):=trivial;have⟨W6,hr,ho,ht⟩:=(h1.kept (jap hb) M).store (Maps.string_keyed vdv) j3g hn (keyOf_string_mk vdv hs) (jm0 t);refine⟨W6,hr,ht,λW7 g hg jG hw hT=>⟨_,ho.kept hg (by simp;exact λe=>jG e.symm),λu hu=>?_⟩⟩;by_cases e:u=s
 .subst e
  exact⟨t,λz=>Maps.atKey_put_same hM SZ _ _,hT⟩
 .have hk:Lit.string u.data.toList≠Lit.string s.data.toList:=λh=>e (by
   simp only[Lit.string.injEq]at h
   exact j0h h)
  rw[Maps.has_put_other hk]at hu;have⟨t2,q1,q2⟩:=h2 u hu;exact⟨t2,λz=>by rw[Maps.atKey_put_other hk];exact q1 z,q2.grown hw T9⟩
theorem jem(w:World)(g o:Nat)(u:Value):w.grownBy (w.setCell (O g o) u) (some g):=⟨rfl,rfl,rfl,M,λk _ hk=>Below.heap_setCell _ _ _ k (λe=>hk (by rw[e]))⟩
theorem jbz(w:World)(g:Nat)(u v:Value):w.grownBy ((w.setCell (O g 0) u).setCell (O g 1) v) (some g):=(jem w g 0 u).andThen (jem _ g 1 v) (λ_ h=>.inr h)
theorem ju2{W:World}{base m d:Nat}{a:Option Addr}{x:Int × List ZK}(h:Zf W base (U a m d) x.2):Jg W ⟨a,m,d,x.1⟩ x:=by
 have ht:∀b o,a=some (O b o)->∃cs,W.heap[b]? =some (G cs 195 (0,0)):=λb o hb=>by
  rcases h.2 with⟨h0,_⟩|⟨g,cap,cur,h1,_,hh,_⟩
  .injection h0 with h0 _ _;rw[hb]at h0;cases h0
  .injection h1 with h1 _ _;rw[hb]at h1;injection h1 with h1;injection h1 with h1;subst h1;exact⟨cur,hh⟩
 unfold Zf at h;have au:(x.2.map ZK.cs).length=x.2.length:=M;rw[<- au]at h;have⟨a',cap,hv,hs,_⟩:=jbe h (λr hr=>by obtain⟨y,_,rfl⟩:=List.mem_map.mp hr;rfl);injection hv with h1 h2 h3
 subst h1;exact⟨rfl,by rw[<- au];exact h2,hs,ht⟩
structure vdX(r:ZW)(nm:ByteArray)(mb mn:Nat)(w:World)(e:Ending)(w':World):Prop where
 ex:∃t:MW,e=V t.v/\Jg w' t (uC r (xP r nm).name)
 cache:Zi w' mb (mn+1) r
 grown:w.grownBy w' (some mb)
theorem jkk{nm:ByteArray}(h:ZZ r=true):(xP r nm).name.size<=20:=by
 cases hx:jbg r.YU (jba r.YW nm)with
 |none=>rw[jc5 hx];exact Nat.zero_le _
 |some i=>
  have hi:i<r.YU.length:=by unfold jbg at hx;exact(List.findIdx?_eq_some_iff_getElem.mp hx).1
  rw[jcr h hx (ZV hi)];exact(jf8 (jc9 h (List.getElem_mem hi)).2).2.1
theorem Zi.mono{n':Nat}(h:Zi w b n r)(hn:n<=n'):Zi w b n' r:=by
 have⟨D,h1,h2⟩:=h.own;exact⟨D,h1.mono hn,h2⟩
theorem jtq(r:ZW)(a b c:Option Addr)(ca cb cc mb mn:Nat)(nm:ByteArray)(w:World)(hE:Zx w)(hv:Zd w (.agg #[U a r.Vv.length ca,U b r.YU.length cb,U c r.YW.length cc]) r)(ok:Jk r)(hr:ZZ r=true)(hC:Zi w mb mn r)(lE:mn<=1048576):
  C 163 #[.agg #[U a r.Vv.length ca,U b r.YU.length cb,U c r.YW.length cc,.map (some mb)],I nm] w (vdX r nm mb mn w):=by
 have F0:∀x y,Bw w ((w.alloc x).alloc y):=λx y=>(ZA _ x).alloc M y
 have aj:=F0 (G #[U a r.Vv.length ca,U b r.YU.length cb,U c r.YW.length cc,.map (some mb)] 68) (G #[nS,J 0] 160);have hZ:=λw hE h=>jfe r (.agg #[U a r.Vv.length ca,U b r.YU.length cb,U c r.YW.length cc]) nm w hE h ok.ok ok.sm ok.on
 have JR:=jkk (nm:=nm) hr;have hT:=λw hE h=>jor r (.agg #[U a r.Vv.length ca,U b r.YU.length cb,U c r.YW.length cc]) (xP r nm).name w hE h ok.ok ok.sm ok.on (by unfold maxLen;omega)
 have Kl:=hC.lt;have⟨zn,yl⟩:=ZL ((xP r nm).name);have HX:=hid yl;rw[yl]at hZ JR hT;clear yl F0;have ej:=hv.below aj;have jx:=hE.of_below aj;have HO:=hid ok;obtain⟨x0,x1,x2,x3,r0,r1,f0,f1⟩:(λz:World=>z.cell? (O w.heap.size 0)=some (U a r.Vv.length ca)/\z.cell? (O w.heap.size 1)=some (U b r.YU.length cb)/\z.cell? (O w.heap.size 2)=some (U c r.YW.length cc)/\z.cell? (O w.heap.size 3)=some (.map (some mb))/\z.cell? (O (w.heap.size+1) 0)=some nS/\z.cell? (O (w.heap.size+1) 1)=some (J 0)/\z.frozen? (O (w.heap.size+1) 0)=false/\z.frozen? (O (w.heap.size+1) 1)=false) ((w.alloc (G #[U a r.Vv.length ca,U b r.YU.length cb,U c r.YW.length cc,.map (some mb)] 68)).alloc (G #[nS,J 0] 160)):=RQ;clear hv hE ok hr;unfold C;go_in;go_wp2_with fail;refine(hZ _ jx ej).mono ?_;rintro q w2 ⟨vz,rfl,_,ac⟩;have qA:∀w:World,(Instr.field 120 (.agg #[I zn,vz]) 0).run Tryz.prog w=.ok (I zn) w:=λ_=>RG
 have an:=Zp aj ac;have eQ:=ej.below ac;have pB:=jx.of_below ac;have y0:=YR ac x0;have y1:=YR ac x1;have y2:=YR ac x2;have y3:=YR ac x3;have s0:=YR ac r0;have s1:=YR ac r1;have g0:=AZ ac r0 f0;have g1:=AZ ac r1 f1;have hlt2:=ZI s0;clear x0 x1 x2 x3 r0 r1 f0 f1 ac aj ej jx hZ;have⟨t,z,gh,hz⟩:=hC.vhT an (s:=zn) (by unfold maxLen;omega);have HZ:=hid hz;clear hz;obtain⟨ta,tn,tc,tk⟩:=t;simp only[MW.v]at gh;dsimp only at hlt2;have ax:=an.alloc an.size (G #[U ta tn tc,J tk] 160);have b3:=ZA w2 (G #[U ta tn tc,J tk] 160);cases z
 .have hsz:=an.size
  have j5:=hT _ (pB.of_below b3) (eQ.below b3);have z0:=YR b3 y0;have z1:=YR b3 y1;have z2:=YR b3 y2;obtain⟨q0,q1,p0,p1⟩:(λz:World=>z.cell? (O w2.heap.size 0)=some (U ta tn tc)/\z.cell? (O w2.heap.size 1)=some (J tk)/\z.frozen? (O w2.heap.size 0)=false/\z.frozen? (O w2.heap.size 1)=false) (w2.alloc (G #[U ta tn tc,J tk] 160)):=RQ;have kN:(w2.alloc (G #[U ta tn tc,J tk] 160)).heap.size=w2.heap.size+1:=M;clear HZ hT;go_wp2_with fail;refine j5.mono ?_;rintro q W4 hP;obtain⟨v7,rfl,cj,aD⟩:=hP.ex;obtain⟨a7,m7,d7,rfl⟩:=Dt cj;have rP:=hid cj;have⟨jq,sL⟩:=ZL ((uC r zn).1);have Ho:=hid sL;rw[sL];clear sL hP cj;have o0:=YR aD q0;have o1:=YR aD q1;have n0:=AZ aD q0 p0;have n1:=AZ aD q1 p1;have b4:Bw w2 W4:=Zp b3 aD;have b5:Bw w2 ((W4.setCell (O w2.heap.size 0) (U a7 m7 d7)).setCell (O w2.heap.size 1) (J jq)):=(b4.setCell (ZD _) _).setCell (ZD _) _;have bG:=an.trans (b5.mono hsz);have c3:=YR b5 y3;have e0:=YR b5 s0;have e1:=YR b5 s1;have m0:=AZ b5 s0 g0;have m1:=AZ b5 s1 g1;have⟨u0,u1⟩:=jav (v0:=U a7 m7 d7) (v1:=J jq) o0 o1;have⟨W6,jk,mO,uU⟩:=hC.vja (by unfold maxLen;omega) bG (s:=zn) (by unfold maxLen;omega) ⟨a7,m7,d7,jq⟩;simp only[MW.v]at jk;have gH:w.heap.size<=w2.heap.size:=hsz;have i0:=mO.grown.cell u0 RO;have i1:=mO.grown.cell u1 RO;have j0:=mO.grown.cell e0 RO;have j1:=mO.grown.cell e1 RO;have l0:=(mO.frozen (O (w.heap.size+1) 0)).trans m0;have l1:=(mO.frozen (O (w.heap.size+1) 1)).trans m1;have HP:Hid (vdX r nm mb mn w (V (.agg #[U a7 m7 d7,J jq])) ((W6.setCell (O (w.heap.size+1) 0) (U a7 m7 d7)).setCell (O (w.heap.size+1) 1) (J jq))):=by
   have G7:=jbz W6 (w.heap.size+1) (U a7 m7 d7) (J jq);have Gw:w.grownBy ((W6.setCell (O (w.heap.size+1) 0) (U a7 m7 d7)).setCell (O (w.heap.size+1) 1) (J jq)) (some mb):=(((jap bG).but _).andThen mO.grown (λ_ h=>.inr h)).andThen G7 (λj h=>by injection h with h;omega);have hO:=rP.out;have jg:=World.ownsRow.lt hO;have hE:Jg ((W6.setCell (O (w.heap.size+1) 0) (U a7 m7 d7)).setCell (O (w.heap.size+1) 1) (J jq)) ⟨a7,m7,d7,jq⟩ (uC r zn):=by
    have k1:=World.ownsRow.kept hO (jbz W4 w2.heap.size (U a7 m7 d7) (J jq)) (.inr λh=>by have:=(jg _ h).1;omega);have k2:=World.ownsRow.kept k1 mO.grown (.inr λh=>by have:=(jg _ h).1;omega);have k3:=World.ownsRow.kept k2 G7 (.inr λh=>by have:=(jg _ h).1;omega);have k4:=ju2 (x:=uC r zn) k3;rw[Ho.out]at k4;exact k4
   exact⟨⟨⟨a7,m7,d7,jq⟩,rfl,by rw[HX.out];exact hE⟩,uU _ _ G7 Q Gw hE,Gw⟩
  have⟨t0,t1⟩:=jav (v0:=U a7 m7 d7) (v1:=J jq) j0 j1;clear uU mO aD b4 kN;go_wp2;exact ZM (v:=.agg #[U a7 m7 d7,J jq]) (by simp[results,Tryz.results163,go_sem,t0,t1]) rfl HP.out
 .have HT:=HZ.out rfl
  have cQ:w.heap.size<=w.heap.size+1:=Q;have lY:Bw w ((w2.setCell (O (w.heap.size+1) 0) (U ta tn tc)).setCell (O (w.heap.size+1) 1) (J tk)):=(an.setCell cQ _).setCell cQ _;have aR:=lY.alloc lY.size (G #[U ta tn tc,J tk] 160);have HP:Hid (vdX r nm mb mn w (V (.agg #[U ta tn tc,J tk])) (((w2.setCell (O (w.heap.size+1) 0) (U ta tn tc)).setCell (O (w.heap.size+1) 1) (J tk)).alloc (G #[U ta tn tc,J tk] 160))):=⟨⟨⟨ta,tn,tc,tk⟩,rfl,by rw[HX.out];exact HT.below aR⟩,(hC.below aR).mono Q,(jap aR).but _⟩;have⟨t0,t1⟩:=jav (v0:=U ta tn tc) (v1:=J tk) s0 s1;have b5:=(ZU _ ((w2.setCell (O (w.heap.size+1) 0) (U ta tn tc)).setCell (O (w.heap.size+1) 1) (J tk))).alloc (ZD _) (G #[U ta tn tc,J tk] 160);have rE:=YR b5 t0;have jp:=YR b5 t1;clear HZ hT;go_wp2;exact ZM (v:=.agg #[U ta tn tc,J tk]) (by simp[results,Tryz.results163,go_sem,rE,jp]) rfl HP.out
end
section
open Go.RowKit Go.ChangeMaps Go.MapKept Go.WideMaps
structure vgB(r:ZW)(a b c:Option Addr)(ca cb cc:Nat)(w:World)(q:Ending)(w':World):Prop where
 ex:q=V (.agg #[U a r.Vv.length ca,U b r.YU.length cb,U c r.YW.length cc,.map (some (w.heap.size+1+1))])
 cache:Zi w' (w.heap.size+1+1) 0 r
 ZB:Bw w w'
theorem j17(w:World)(r:ZW){n:Nat}(h:w.heap.size=n):Zi (w.alloc (.map #[] 0)) n 0 r:=by subst h;exact Zi.made w r
theorem jmf(r:ZW)(a b c:Option Addr)(ca cb cc:Nat)(w:World):
  C 53 #[.agg #[U a r.Vv.length ca,U b r.YU.length cb,U c r.YW.length cc]] w (vgB r a b c ca cb cc w):=by
 have gi:=@run_makeMap Tryz.prog;unfold C;go_in;go_wp2;refine ZM (v:=.agg #[U a r.Vv.length ca,U b r.YU.length cb,U c r.YW.length cc,.map (some (w.heap.size+1+1))]) (by simp[results,Tryz.results53,go_sem]) rfl ⟨rfl,?_,?_⟩
 .exact j17 _ r M
 .exact((ZA _ _).alloc M _).alloc RO _
