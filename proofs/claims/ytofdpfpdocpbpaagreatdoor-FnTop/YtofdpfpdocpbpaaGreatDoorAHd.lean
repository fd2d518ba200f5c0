/- Packed. -/
import Derived.Test.YtofdpfpdocpbpaaGreatDoorCPd
import Derived.Test.YtofdpfpdocpbpaaGreatDoorHpPd
import Derived.Test.YtofdpfpdocpbpaaGreatDoorSId
import Derived.Test.YtofdpfpdocpbpaaGreatDoorSLd
import Derived.Deep.AppendLies
import Derived.Deep.RegionLaw
import Derived.Deep.RegionHeld3
import Derived.BigRegion
import Derived.Test.YtofdpfpdocpbpaaGreatDoorSDd
import Derived.Test.YtofdpfpdocpbpaaGreatDoorLVd
import Derived.Test.YtofdpfpdocpbpaaGreatDoorSBd
import Derived.Test.YtofdpfpdocpbpaaGreatDoorSCd
import Derived.Test.YtofdpfpdocpbpaaGreatDoorTbSd
set_option maxRecDepth 20000
set_option maxHeartbeats 20000000
set_option linter.unusedSimpArgs false
namespace Go.Proofs.YtofdpfpdocpbpaaGreatDoor
section
open Go.RowKit Go.ChangeMaps Go.MapKept Go.WideMaps Go.Sort
theorem jc0{w:World}{b o:Nat}{v:Value}{lb:Nat}(hm:∃es c,w.heap[lb]? =some (.map es c))(h:w.cell? ⟨b,o,none⟩=some v):b≠lb:=fun e=>by
 subst e
 obtain⟨es,c,hm⟩:=hm
 simp[World.cell?,hm]at h
theorem StC.parts{w:World}{B U:Nat}{s:Za}{a b c d e f va ia:Option Addr}{ca cb cc cd ce cf cv ci:Nat}(h:StC w B U (.agg (stA s a b c d e f va ia ca cb cc cd ce cf cv ci).toArray) s):∃M1 M2 M3,(B<=M1/\M1<=M2/\M2<=M3/\M3<=U)/\Jr w B M1 (.slice a s.now.rules.length ca) (.slice b s.now.zones.length cb) (.slice c s.now.links.length cc) s.now/\Jr w M1 M2 (.slice d s.was.rules.length cd) (.slice e s.was.zones.length ce) (.slice f s.was.links.length cf) s.was/\Jh w M2 M3 101 8 (.slice va s.vs.length cv) (s.vs.map VersionD.cs)/\Jh w M3 U 108 2 (.slice ia s.ix.length ci) (s.ix.map EntryD.cs):=by
 obtain⟨a',b',c',d',e',f',va',ia',ca',cb',cc',cd',ce',cf',cv',ci',M1,M2,M3,hv,h1,h2,h3,h4,h5⟩:=h.form
 simp only[stA,Value.agg.injEq,Array.mk.injEq,List.cons.injEq,Value.slice.injEq,true_and,and_true]at hv
 obtain⟨⟨rfl,rfl⟩,⟨rfl,rfl⟩,⟨rfl,rfl⟩,⟨rfl,rfl⟩,⟨rfl,rfl⟩,⟨rfl,rfl⟩,⟨rfl,rfl⟩,rfl,rfl⟩:=hv
 exact⟨M1,M2,M3,h1,h2,h3,h4,h5⟩
theorem jbv{w:World}{b n:Nat}{f:Int->Option EventD}(h:Zg w b n f):∃es c,w.heap[b]? =some (.map es c):=by
 obtain⟨D,⟨es,clock,hb,_⟩,_⟩:=h.own
 exact⟨es,clock,hb⟩
theorem j5b{w:World}{b j:Nat}{v:Value}{t:TypeId}(h:∃cs,w.heap[b]? =some (.cells cs t (0,0))):∃cs,(w.setCell ⟨b,j,none⟩ v).heap[b]? =some (.cells cs t (0,0)):=by
 obtain⟨cs,hc⟩:=h
 rw[Go.Sort.setCell_eq]
 simp[Go.Sort.mapBlock,Array.getElem?_modify,hc]
 exact⟨_,rfl⟩
end
section
open Go.RowKit Go.ChangeMaps Go.MapKept Go.WideMaps Go.Sort
def addS(s:Za)(e:EventD)(g:Bool):Za:=⟨s.tx+1,s.now,s.was,s.cur,s.vs++[jpf (s.tx+1) g e],entF (momB s) (jai (s.vs++[jpf (s.tx+1) g e]))⟩
theorem jww{w w':World}{base:Nat}{e:TypeId}{q g m cap:Nat}{n:Nat}{xs:List Value}(h:w.ownsRow base e q (.slice (some ⟨g,0,none⟩) m cap) n xs)(hg:w'.heap[g]? =w.heap[g]?):w'.ownsRow base e q (.slice (some ⟨g,0,none⟩) m cap) n xs:=by
 refine⟨h.1,?_⟩
 rcases h.2 with⟨h1,_⟩|⟨g',c,cur,h1,h2,h3,h4⟩
 ·injection h1 with h1;cases h1
 ·have h5:=h1
  injection h5 with h5
  injection h5 with h5
  injection h5 with h5
  subst h5
  exact .inr ⟨g,c,cur,h1,h2,hg.trans h3,h4⟩
theorem j4i{w:World}{base:Nat}{e:TypeId}{g cap:Nat}{l:List VersionD}{v:VersionD}(h:w.ownsRow base e 8 (.slice (some ⟨g,0,none⟩) (l.length+1) cap) (l.length+1) ((l.map VersionD.cs).flatten++v.cs)):w.ownsRow base e 8 (.slice (some ⟨g,0,none⟩) (l++[v]).length cap) ((l++[v]).map VersionD.cs).length ((l++[v]).map VersionD.cs).flatten:=by
 rw[List.length_map,List.length_append,List.map_append,List.flatten_append]
 simpa using h
theorem j1e(l:List VersionD)(v:VersionD):jvz (jbk l) v=jbk (l++[v]):=by
 have h:=jk1 (l++[v]) l.length (v:=v) (by simp)
 rw[List.take_left' rfl,List.take_of_length_le (by simp)]at h
 exact h
theorem jcj{w:World}{base:Nat}{e:TypeId}{q:Nat}{v:Value}{n:Nat}{xs:List Value}(h:w.ownsRow base e q v n xs){g:Nat}(hg:v.ownBlock=some g):∃cs,w.heap[g]? =some (.cells cs e (0,0)):=by
 rcases h.2 with⟨h1,_⟩|⟨g',_,cur,h1,_,h2,_⟩
 ·rw[h1]at hg;cases hg
 ·rw[h1]at hg
  injection hg with hg
  subst hg
  exact⟨cur,h2⟩
end
section
open Go.RowKit Go.ChangeMaps Go.MapKept Go.WideMaps Go.Sort
theorem Zg.lookW{w:World}{b n:Nat}{f:Int->Option EventD}(h:Zg w b n f){id:Int}(hw:(Lit.int .i64 id).wf=true):∃e:EventD,(Instr.lookup 75 (.map (some b)) (.int .i64 id) true).run Tryz.prog w=.ok (.tuple #[e.v,.bool (f id).isSome]) w/\∀x,f id=some x->e=x:=by
 obtain⟨D,h1,h2⟩:=h.own
 obtain⟨v,ps,hr,hv⟩:=h1.look_ok (Maps.int_keyed keyT) mapT (zeroEvent w) (jj0 _) (Maps.keyOf_int_mk keyT hw)
 obtain⟨e,rfl,he⟩:=jb3 hv
 cases hf:f id with
 |none=>exact⟨e,by rw[hr,(h2 id e).2 hf];rfl,fun x hx=>by cases hx⟩
 |some y=>
  obtain⟨a,c⟩:=(h2 id y).1 hf
  refine⟨e,by rw[hr,a];rfl,fun x hx=>?_⟩
  obtain rfl:=Option.some.inj hx
  rw[c]at he
  have h3:=congrArg Prod.fst he
  simp only[DataW.held.injEq]at h3
  exact h3.symm
def j6j(s:Za):Bool:=decide (s.vs.length=60) || decide (s.tx=900000)
theorem jx1(s:Za)(bb:Nat)(a8:Option Addr)(c8:Nat)(w:World)(x0:w.cell? ⟨bb,0,none⟩=some (.int .i64 s.tx))(x8:w.cell? ⟨bb,8,none⟩=some (.slice a8 s.vs.length c8)):
  Calls Tryz.prog 178 #[.pointer (some ⟨bb,0,none⟩)] w fun e w'=>e=.returned (.bool (j6j s))/\w'=w:=by
 unfold j6j
 generalize s.vs.length=n at *
 generalize s.tx=t at *
 by_cases h1:n=60
 ·subst h1
  go_enter Tryz.func178,Tryz.ntmps178
  go_wp2
  go_ret
  exact⟨rfl,rfl⟩
 ·rw[decide_eq_false h1,Bool.false_or]
  have h2:((n:Int)==60)=false:=by simp;omega
  by_cases h3:t=900000
  ·subst h3
   go_enter Tryz.func178,Tryz.ntmps178
   go_wp2
   go_ret
   exact⟨rfl,rfl⟩
  ·rw[decide_eq_false h3]
   have h4:(t==900000)=false:=by simpa using h3
   go_enter Tryz.func178,Tryz.ntmps178
   go_wp2
   go_ret
   exact⟨rfl,rfl⟩
end
section
open Go.RowKit
def cutN(l:List VersionD)(tx:Int):Nat:=(l.takeWhile fun v=>decide (v.tx<=tx)).length
theorem jy5{tx:Int}:∀{l:List VersionD} {k:Nat},k<=l.length->(∀j v,j<k->l[j]? =some v->v.tx<=tx)->(∀v,l[k]? =some v->¬v.tx<=tx)->cutN l tx=k
 |[],k,h,_,_=>by
  simp only[List.length_nil,Nat.le_zero_eq]at h
  subst h
  rfl
 |x::l,0,_,_,h3=>by
  have h:=h3 x rfl
  unfold cutN
  rw[List.takeWhile_cons_of_neg (by simpa using h)]
  rfl
 |x::l,k+1,h1,h2,h3=>by
  have h:=h2 0 x (by omega) rfl
  have ih:=jy5 (l:=l) (k:=k) (by simpa using h1) (fun j v hj hv=>h2 (j+1) v (by omega) (by simpa using hv)) (fun v hv=>h3 v (by simpa using hv))
  unfold cutN at *
  rw[List.takeWhile_cons_of_pos (by simpa using h),List.length_cons,ih]
theorem jt9{l:List VersionD}{m k:Nat}{v:VersionD}(h:k<=m):jkw (l.take m) k v=jkw l k v:=by
 unfold jkw
 rw[List.take_take,Nat.min_eq_left h]
theorem jlh{l:List VersionD}{m:Nat}:∀{k:Nat},k<=m->jcy (l.take m) k=jcy l k
 |0,_=>rfl
 |k+1,h=>by
  unfold jcy
  rw[jlh (k:=k) (by omega),List.getElem?_take,if_pos (by omega)]
  cases l[k]? with
  |none=>rfl
  |some v=>simp only;rw[jt9 (by omega)]
theorem jt8{l:List VersionD}{k n:Nat}(h:jcy l n=true)(hk:k<=n):jcy l k=true:=by
 induction n with
 |zero=>
  obtain rfl:k=0:=by omega
  exact h
 | succ n ih=>
  by_cases e:k=n+1
  ·rw[e];exact h
  ·unfold jcy at h
   rw[Bool.and_eq_true]at h
   exact ih h.1 (by omega)
def asB(s:Za)(tx:Int):Bool:=decide (0<=tx)&&decide (tx<=s.tx)
def asL(s:Za)(tx:Int):List EventD:=if asB s tx=true then jai (s.vs.take (cutN s.vs tx))else []
def asC(s:Za)(tx:Int):Int:=if asB s tx=true then 0 else 4
theorem j9f{s:Za}{tx:Int}(h:tx<0\/s.tx<tx):asL s tx=[]/\asC s tx=4:=by
 have e:asB s tx=false:=by
  unfold asB
  rcases h with h|h
  ·rw[decide_eq_false (by omega)];rfl
  ·rw[decide_eq_false (p:=tx<=s.tx) (by omega)];simp
 unfold asL asC
 rw[e]
 exact⟨rfl,rfl⟩
theorem j66{s:Za}{tx:Int}(h1:0<=tx)(h2:tx<=s.tx):asL s tx=jai (s.vs.take (cutN s.vs tx))/\asC s tx=0:=by
 have e:asB s tx=true:=by unfold asB;rw[decide_eq_true h1,decide_eq_true h2];rfl
 unfold asL asC
 rw[e]
 exact⟨rfl,rfl⟩
end
section
open Go.RowKit Go.Sort
def AsP(C:Int)(X:List EventD)(w:World)(q:Ending)(W':World):Prop:=∃x,q=.returned (.agg #[x,.int .i64 C])/\Zq W' w.heap.size x X/\Below w.heap.size w W'
theorem j64{C:Int}{X:List EventD}{w w1:World}{b base:Nat}{x:Value}(hO:Zq w1 base x X)(hb:w.heap.size<=b)(hbb:b<base)(hB:Below w.heap.size w w1):AsP C X w (.returned (.agg #[x,.int .i64 C])) ((w1.setCell ⟨b,0,none⟩ x).setCell ⟨b,1,none⟩ (.int .i64 C)):=by
 have hne:x.ownBlock=none\/x.ownBlock≠some b:=by
  cases hv:x.ownBlock with
  |none=>exact .inl rfl
  |some g=>exact .inr fun e=>by have:=(World.ownsRow.lt hO g hv).1;injection e with e;omega
 exact⟨x,rfl,World.ownsRow.kept (World.ownsRow.kept (jb8 hO (by omega)) (jbt w1 _ 0 _) hne) (jbt _ _ 1 _) hne,(hB.setCell hb _).setCell hb _⟩
theorem jx2(s:Za)(bb:Nat)(a8:Option Addr)(c8:Nat)(tx:Int)(w:World)(c0:w.cell? ⟨bb,0,none⟩=some (.int .i64 s.tx))(c1:w.cell? ⟨bb,8,none⟩=some (.slice a8 s.vs.length c8))(hA:Zd w a8 8 (s.vs.map VersionD.cs))(hcv:s.vs.length<=c8)(hi:∀v∈s.vs,1<=v.id/\v.id<=1000000)(hg:jcy s.vs s.vs.length=true)(hl:s.vs.length<=1048576):
  Calls Tryz.prog 143 #[.pointer (some ⟨bb,0,none⟩),.int .i64 tx] w (AsP (asC s tx) (asL s tx) w):=by
 have hB0:Below w.heap.size w (w.alloc (.cells #[.slice none 0 0,.int .i64 0] 234)):=qal _ _
 have A0:=Zc.new w [.slice none 0 0,.int .i64 0] 234
 have r0:=A0.c 0 rfl
 have r1:=A0.c 1 rfl
 have rf0:=A0.f 0 rfl
 have rf1:=A0.f 1 rfl
 have d0:=jab hB0 c0
 have d1:=jab hB0 c1
 have HA:=hid hA
 have HI:=hid hi
 have HG:=hid hg
 clear c0 c1 hA hi hg A0
 by_cases t:tx<0\/s.tx<tx
 ·obtain⟨e1,e2⟩:=j9f t
  rw[e1,e2]
  have HP:Hid (AsP 4 [] w (.returned (.agg #[.slice none 0 0,.int .i64 4])) (w.alloc (.cells #[.slice none 0 0,.int .i64 4] 234))):=⟨_,rfl,World.ownsRow_nil _ _ _ _,qal _ _⟩
  by_cases h0:tx<0
  ·clear t
   go_enter Tryz.func143,Tryz.ntmps143
   go_wp2
   exact bodyPost_ret (v:=.agg #[.slice none 0 0,.int .i64 4]) (by simp[results,Tryz.results143,go_sem]) rfl HP.out
  ·have h1:s.tx<tx:=by omega
   clear t
   go_enter Tryz.func143,Tryz.ntmps143
   go_wp2
   exact bodyPost_ret (v:=.agg #[.slice none 0 0,.int .i64 4]) (by simp[results,Tryz.results143,go_sem]) rfl HP.out
 have h0:¬tx<0:=by omega
 have h1:¬s.tx<tx:=by omega
 obtain⟨e1,e2⟩:=j66 (s:=s) (tx:=tx) (by omega) (by omega)
 rw[e1,e2]
 clear t e1 e2
 obtain⟨n,hn⟩:∃n,s.vs.length=n:=⟨_,rfl⟩
 have HN:=hid hn
 simp only[hn]at d1 hcv hl
 clear hn
 obtain⟨W,hW⟩:∃x,(w.alloc (.cells #[.slice none 0 0,.int .i64 0] 234))=x:=⟨_,rfl⟩
 rw[hW]at hB0 r0 r1 rf0 rf1 d0 d1
 have hsW:W.heap.size=w.heap.size+1:=by rw[<- hW];simp
 go_enter Tryz.func143,Tryz.ntmps143
 go_wp2_with fail
 clear hW
 go_loopw [5] (fun t wr=>∃k:Nat,t=.int .i64 k/\k<=n/\wr=W/\Hid (∀j v,j<k->s.vs[j]? =some v->v.tx<=tx)) (fun t _=>n-(intOf t).toNat)
 case atStart=>exact⟨0,rfl,by omega,rfl,fun j v hj=>by omega⟩
 case round=>
  obtain⟨k,rfl,hk,hw,HK⟩:=hrel
  have hw:=hw.symm
  subst hw
  have hA:=HA.out.below hB0
  by_cases hgo:∃v,s.vs[k]? =some v/\v.tx<=tx
  ·obtain⟨v,hv,hvt⟩:=hgo
   have hlt:k<n:=by have:=(List.getElem?_eq_some_iff.mp hv).1;have:=HN.out;omega
   have HK2:Hid (∀j u,j<k+1->s.vs[j]? =some u->u.tx<=tx):=fun j u hj hu=>by
    by_cases e:j=k
    ·subst e;rw[hv]at hu;obtain rfl:=Option.some.inj hu;exact hvt
    ·exact HK.out j u (by omega) hu
   obtain⟨b,o,rfl,hc⟩:=hA.at (i:=k) (r:=v.cs) (by rw[List.getElem?_map,hv];rfl)
   have c0:W.cell? ⟨b,o+k*8,none⟩=some (.int .i64 v.tx):=hc 0 _ rfl
   clear hc hv HK hA
   go_wp2
   go_roundw
   case rel=>exact⟨k+1,by go_num,by omega,trivial,HK2⟩
   case measure=>simp[intOf];omega
  ·have hcut:cutN s.vs tx=k:=jy5 (by rw[HN.out];exact hk) HK.out fun v hv hle=>hgo ⟨v,hv,hle⟩
   have HC:Hid (s.vs.take (cutN s.vs tx)=s.vs.take k):=by rw[hcut];rfl
   have hlen:(s.vs.take k).length=k:=by rw[List.length_take,HN.out];omega
   have hL:=jje (s.vs.take k) a8 k c8 W (by rw[List.map_take];exact hA.take k) (fun v hv=>HI.out v (List.mem_of_mem_take hv)) hlen (by omega)
   have HG2:Hid (jcy (s.vs.take k) (s.vs.take k).length=true):=by simp only[Hid];rw[hlen,jlh (Nat.le_refl _)];exact jt8 HG.out (by rw[HN.out];exact hk)
   have HL:Hid ((jai (s.vs.take k)).length<=1048576):=by simp only[Hid];refine Nat.le_trans (jxi _ _) ?_;omega
   have HE:Hid (k=n\/∃v,s.vs[k]? =some v/\¬v.tx<=tx):=by
    simp only[Hid]
    by_cases e:k<n
    ·obtain⟨v,hv⟩:∃v,s.vs[k]? =some v:=⟨_,List.getElem?_eq_getElem (by rw[HN.out];exact e)⟩
     exact .inr ⟨v,hv,fun hle=>hgo ⟨v,hv,hle⟩⟩
    ·exact .inl (by omega)
   generalize hT:s.vs.take k=T at *
   clear hT hcut hgo hlen
   have hcc:(k:Int)<=c8:=by omega
   rcases HE.out with e|⟨v,hv,hvt⟩
   all_goals
    first
    |(subst e;clear HE HK HI HG hA;go_wp2_with fail)
    |(have hlt:k<n:=(by have:=(List.getElem?_eq_some_iff.mp hv).1;have:=HN.out;omega);obtain⟨b,o,rfl,hc⟩:=hA.at (i:=k) (r:=v.cs) (by rw[List.getElem?_map,hv];rfl);have c0:W.cell? ⟨b,o+k*8,none⟩=some (.int .i64 v.tx):=hc 0 _ rfl;clear HE HK HI HG hA hc hv;go_wp2_with fail)
    refine hL.mono ?_
    rintro q w1 hP
    have hb1:=hP.bel
    rcases hP.end_ with⟨_,hq,hM⟩|⟨hno,_⟩
    case inr=>rw[HG2.out]at hno;cases hno
    subst hq
    have hB1:=qtr hB0 hb1
    have u0:=jab hb1 r0
    have u1:=jab hb1 r1
    have hY:=joi W.heap.size T.length (jbk T) (jai T) w1 hM (jbf T) (jck T.length) HL.out
    rw[hsW]at hY
    clear hP hM HG2 HL hL r0 r1 d0 d1
    go_wp2_with fail
    refine hY.mono ?_
    rintro q w2 ⟨v2,rfl,hO2,hb2⟩
    obtain⟨p2,m2,k2,rfl⟩:=jaq hO2
    have hB2:=qtr hB1 hb2
    have y0:=jab hb2 u0
    have y1:=jab hb2 u1
    have y2:=((jal hb2).2 _ _ (qbl u0)).trans (((jal hb1).2 _ _ (by rw[hsW];simp)).trans rf0)
    have y3:=((jal hb2).2 _ _ (qbl u1)).trans (((jal hb1).2 _ _ (by rw[hsW];simp)).trans rf1)
    have HP:Hid (AsP 0 (jai T) w (.returned (.agg #[.slice p2 m2 k2,.int .i64 0])) ((w2.setCell ⟨w.heap.size,0,none⟩ (.slice p2 m2 k2)).setCell ⟨w.heap.size,1,none⟩ (.int .i64 0))):=j64 hO2 (Nat.le_refl _) (by have:=hb1.size;omega) hB2
    obtain⟨t0,t1⟩:=ja5 (v0:=.slice p2 m2 k2) (v1:=.int .i64 0) y0 y1
    clear hO2 hb1 hb2 hY u0 u1
    go_wp2
    exact bodyPost_ret (v:=.agg #[.slice p2 m2 k2,.int .i64 0]) (by simp[results,Tryz.results143,go_sem,t0,t1]) rfl (by rw[HC.out];exact HP.out)
end
end Go.Proofs.YtofdpfpdocpbpaaGreatDoor
