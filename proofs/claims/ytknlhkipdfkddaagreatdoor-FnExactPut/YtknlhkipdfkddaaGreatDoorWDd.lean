/- Packed. -/
import Derived.Test.YtknlhkipdfkddaaGreatDoorMarkStored
import Derived.Test.YtknlhkipdfkddaaGreatDoorDUd
set_option maxRecDepth 100000
set_option maxHeartbeats 20000000
set_option linter.unusedSimpArgs false
namespace Go.Proofs.YtknlhkipdfkddaaGreatDoor
section
open Go.RowKit Go.Sort
theorem Zh.fin2{w:World}{g:Nat}{p0 p1 p2 p3 p4 p5 p6 p7 p8 p9 p10 p11:Value}(h:Zh w g [p0,p1,p2,p3,p4,p5,p6,p7,p8,p9,p10,p11])(v0 v1 v2 v3 v4 v5 v6 v7 v8 v9 v10 v11:Value):Zh ((((((((((((w.setCell (ad g 0) v0).setCell (ad g 1) v1).setCell (ad g 2) v2).setCell (ad g 3) v3).setCell (ad g 4) v4).setCell (ad g 5) v5).setCell (ad g 6) v6).setCell (ad g 7) v7).setCell (ad g 8) v8).setCell (ad g 9) v9).setCell (ad g 10) v10).setCell (ad g 11) v11) g [v0,v1,v2,v3,v4,v5,v6,v7,v8,v9,v10,v11]:=((((((((((((h.set (j:=0) v0).set (j:=1) v1).set (j:=2) v2).set (j:=3) v3).set (j:=4) v4).set (j:=5) v5).set (j:=6) v6).set (j:=7) v7).set (j:=8) v8).set (j:=9) v9).set (j:=10) v10).set (j:=11) v11)
theorem Zh.fin3{w:World}{g:Nat}{p0 p1 p2 p3 p4 p5 p6 p7 p8 p9 p10 p11:Value}(h:Zh w g [p0,p1,p2,p3,p4,p5,p6,p7,p8,p9,p10,p11])(v0 v1 v2 v3 v4 v5 v6 v7 v8 v9 v10 v11:Value):∃W,(((((((((((w.setCell (ad g 0) v0).setCell (ad g 1) v1).setCell (ad g 2) v2).setCell (ad g 3) v3).setCell (ad g 4) v4).setCell (ad g 5) v5).setCell (ad g 6) v6).setCell (ad g 7) v7).setCell (ad g 8) v8).setCell (ad g 9) v9).setCell (ad g 10) v10).setCell (ad g 11) v11=W/\Zh W g [v0,v1,v2,v3,v4,v5,v6,v7,v8,v9,v10,v11]/\Zc (fun b=>b=g) w W/\W.heap.size=w.heap.size/\∀(n:Nat) (u:World),n<=g->Below n u w->Below n u W:=by
 obtain⟨W,hW,_,h1,h2,h3⟩:=h.fin v0 v1 v2 v3 v4 v5 v6 v7 v8 v9 v10 v11
 exact⟨W,hW,hW ▸ h.fin2 v0 v1 v2 v3 v4 v5 v6 v7 v8 v9 v10 v11,h1,h2,h3⟩
structure MemOk(M:Nat->Nat->World->Prop):Prop where
 below:∀B U W W',M B U W->Bw W W'->M B U W'
 touch:∀B U W W' g,M B U W->Zc (fun b=>b=g) W W'->(g<B\/U<=g)->M B U W'
structure L0(w W:World)(vo:Option Nat):Prop where
 bel:Bw w W
 var:∀g,vo=some g->Zh W g [iv 0,nS,nS,nS,nS,nS,nS,iv 0,nS,nS,iv 0,iv 0]/\w.heap.size<=g
structure L1(s:StoreD)(w W:World)(vo:Option Nat)(v:Value):Prop where
 lb:L0 w W vo
 own:∃B,OwnSt W B v s
structure L2(P:World->Prop)(w W:World)(vo:Option Nat):Prop where
 lb:L0 w W vo
 own:P W
structure L3(M:Nat->Nat->World->Prop)(w W:World)(vo:Option Nat):Prop where
 lb:L0 w W vo
 mem:∃B U,M B U W/\w.heap.size<=B/\U<=W.heap.size/\∀g,vo=some g->g<B\/U<=g
structure LF(M:Nat->Nat->World->Prop)(w W:World)(g:Nat)(l:List Value):Prop where
 bel:Bw w W
 var:Zh W g l
 ge:w.heap.size<=g
 mem:∃B U,M B U W/\w.heap.size<=B/\U<=W.heap.size/\(g<B\/U<=g)
section
variable {w W W' : World} {vo : Option Nat} {s : StoreD} {v : Value} {M : Nat -> Nat -> World -> Prop} {P : World -> Prop}
theorem L0.to(h:L0 w W vo)(hb:Bw W W'):L0 w W' vo:=⟨h.bel.trans (hb.mono h.bel.size),fun g e=>⟨(h.var g e).1.below hb,(h.var g e).2⟩⟩
theorem L0.al(h:L0 w W none):L0 w (W.alloc (.cells #[iv 0,nS,nS,nS,nS,nS,nS,iv 0,nS,nS,iv 0,iv 0] 45)) (some W.heap.size):=⟨h.bel.alloc h.bel.size _,fun g e=>by cases e;exact⟨Zh.new W _ _,h.bel.size⟩⟩
theorem L1.bel(h:L1 s w W vo v):Bw w W:=h.lb.bel
theorem L2.bel(h:L2 P w W vo):Bw w W:=h.lb.bel
theorem L3.bel(h:L3 M w W vo):Bw w W:=h.lb.bel
theorem bnew(W:World):Bw W (W.alloc (.cells #[iv 0,nS,nS,nS,nS,nS,nS,iv 0,nS,nS,iv 0,iv 0] 45)):=qal _ _
theorem L1.al(h:L1 s w W none v):L1 s w (W.alloc (.cells #[iv 0,nS,nS,nS,nS,nS,nS,iv 0,nS,nS,iv 0,iv 0] 45)) (some W.heap.size) v:=⟨h.lb.al,h.own.elim fun B k=>⟨B,k.below (bnew W)⟩⟩
theorem L2.al(hP:∀W W',P W->Bw W W'->P W')(h:L2 P w W none):L2 P w (W.alloc (.cells #[iv 0,nS,nS,nS,nS,nS,nS,iv 0,nS,nS,iv 0,iv 0] 45)) (some W.heap.size):=⟨h.lb.al,hP _ _ h.own (bnew W)⟩
theorem L3.al(hM:MemOk M)(h:L3 M w W none):L3 M w (W.alloc (.cells #[iv 0,nS,nS,nS,nS,nS,nS,iv 0,nS,nS,iv 0,iv 0] 45)) (some W.heap.size):=⟨h.lb.al,by
 obtain⟨B,U,h1,h2,h3,_⟩:=h.mem
 exact⟨B,U,hM.below _ _ _ _ h1 (bnew W),h2,by simp;omega,fun g e=>by cases e;exact .inr h3⟩⟩
theorem L0.s1(h:L0 w W vo){B:Nat}(hO:OwnSt W' B v s)(hb:Bw W W'):L1 s w W' vo v:=⟨h.to hb,B,hO⟩
theorem L0.s2(h:L0 w W vo)(hP:P W')(hb:Bw W W'):L2 P w W' vo:=⟨h.to hb,hP⟩
theorem L0.s3(h:L0 w W vo)(hm:M W.heap.size W'.heap.size W')(hb:Bw W W'):L3 M w W' vo:=⟨h.to hb,W.heap.size,W'.heap.size,hm,h.bel.size,nlr _,fun g e=>.inl (qbl ((h.var g e).1.c 0 rfl))⟩
theorem L3.fin(hM:MemOk M){g:Nat}{l:List Value}(h:L3 M w W (some g))(hT:Zc (fun b=>b=g) W W')(hz:W'.heap.size=W.heap.size)(hB:∀(n:Nat) (u:World),n<=g->Below n u W->Below n u W')(hv:Zh W' g l):LF M w W' g l:=by
 obtain⟨B,U,h1,h2,h3,h4⟩:=h.mem
 exact⟨hB _ _ (h.lb.var g rfl).2 h.bel,hv,(h.lb.var g rfl).2,B,U,hM.touch _ _ _ _ g h1 hT (h4 g rfl),h2,by omega,h4 g rfl⟩
end
def MS(v:Value)(D:StoreD)(B U:Nat)(W:World):Prop:=U<=W.heap.size/\∀W':World,(∀k,B<=k->k<U->W'.heap[k]? =W.heap[k]?)->Jd W' v D
theorem MS.ok(v:Value)(D:StoreD):MemOk (MS v D):=⟨fun B U W W' h hb=>⟨Nat.le_trans h.1 hb.size,fun X hX=>h.2 X fun k h1 h2=>(hX k h1 h2).trans (hb.block k (Nat.lt_of_lt_of_le h2 h.1))⟩,fun B U W W' g h hT hg=>⟨Nat.le_trans h.1 hT.size,fun X hX=>h.2 X fun k h1 h2=>(hX k h1 h2).trans (hT.block k (Nat.lt_of_lt_of_le h2 h.1) (show k≠g by omega))⟩⟩
theorem MS.from{v:Value}{D:StoreD}{W W':World}(h:StFrom W.heap.size W' v D):MS v D W.heap.size W'.heap.size W':=⟨nlr _,h⟩
def MP(v:Value)(D:StoreD)(B U:Nat)(W:World):Prop:=StC W B U v D
theorem MP.ok(v:Value)(D:StoreD):MemOk (MP v D):=⟨fun _ _ _ _ h hb=>StC.below h hb,fun _ _ _ _ g h hT hg=>StC.touch h hT (fun b h1 h2 e=>by have e:b=g:=e;omega)⟩
end
section
open Go.RowKit Go.Sort
theorem walkP(s D:StoreD)(C:Int)(ev:EventD)(v:Value)(w:World)(hv:Jd w v s)(yq:s.ok)(Rn:ev.ok)(cg:Zx w)(wl:D.now.sz<=s.now.sz/\D.was.sz<=s.was.sz)(Pa:Zr s->Zr D)(hI:Zr s->∀v w,Zx w->Jd w v s->Cl 9 #[v,ev.v] w (OutP D 0 C w))(hS:Zr s->∀v B w,OwnSt w B v s->Cl 6 #[v,ev.v] w (OutM D 0 C w)):
  Cl 3 #[v,ev.v] w fun e w'=>e=.returned (.bool true)/\Bw w w':=by
 have dQ:=hv
 obtain⟨a,b,c,d,e,f,va,ia,ca,cb,cc,cd,ce,cf,cv,ci,rfl,_,_,_,_,_,_⟩:=hv.form
 obtain⟨w0,KR,ag,A0,E0,_⟩:=two_alloc w (stA s a b c d e f va ia ca cb cc cd ce cf cv ci) ev.cs 30 32
 have hZ:=jn0 s _ 1048576 _ (dQ.below ag) yq (by omega) (by omega)
 have hY:=fun n W h0 h1=>jn3 ev n W h0 h1 Rn
 have SE:=fun W=>jnx ev W
 generalize ev.sz=es at *
 obtain⟨id,name,zone,wall,gap,fold⟩:=ev
 simp only[EventD.v,EventD.cs]at *
 obtain⟨x0,x1,x2,x3,x4,x5,x6,x7,x8,x9⟩:=A0.ten
 by_cases g:1048576-(s.sz:Int)<0
 ·rw[jal g]at hZ
  clear g hY
  go_enter Tryz.func3,Tryz.ntmps3
  go_wp2_with fail
  clear KR
  refine hZ.mono ?_
  rintro e1 w1 ⟨rfl,hb1⟩
  go_wp2
  go_ret
  exact⟨rfl,(qtr ag hb1)⟩
 rw[jbb (by omega)]at hZ
 have Sr:=fun W=>hY (1048576-(s.sz:Int)) W (by omega) (by omega)
 clear hY
 have ok:=yq.store (by omega)
 have hsz:s.now.sz<=1048576/\s.was.sz<=1048576:=by unfold StoreD.sz at g;omega
 have lB:=fun w h=>jnu s (.agg (stA s a b c d e f va ia ca cb cc cd ce cf cv ci).toArray) w h ok
 have Fg:=fun v w hE h=>hI ok v w hE h
 have JK:=fun v B w h=>hS ok v B w h
 have Yz:=Pa ok
 have aH:D.now.sz<=1048576:=Nat.le_trans wl.1 hsz.1
 have aF:D.was.sz<=1048576:=Nat.le_trans wl.2 hsz.2
 have Jy:=fun v v2 w h h2=>jn5 s v v2 w h h2 ok
 have Fk:=fun v B U w h hU=>jj3 s v B U w h hU hsz.1 hsz.2 ok.vl ok.xl
 have hQ:=fun a b c d e f va ia ca cb cc cd ce cf cv ci a2 b2 c2 d2 e2 f2 rG qS fJ nN nO rT rU rV rX rW w h h2=>laws_eqStoreOut D a b c d e f va ia ca cb cc cd ce cf cv ci a2 b2 c2 d2 e2 f2 rG qS fJ nN nO rT rU rV rX rW 0 C w h h2 Yz
 clear hI hS hsz wl Pa
 by_cases g3:1048576-(s.sz:Int)-(es:Int)<0
 ·simp only[jal g3]at Sr
  generalize (s.sz:Int)=sz at *
  go_enter Tryz.func3,Tryz.ntmps3
  go_wp2_with fail
  clear KR
  refine hZ.mono ?_
  rintro e1 w1 ⟨rfl,hb1⟩
  have aj:=qtr ag hb1
  have E1:=E0.below hb1
  have e0:=E1.c 0 rfl
  have e1:=E1.c 1 rfl
  have e2:=E1.c 2 rfl
  have e3:=E1.c 3 rfl
  have e4:=E1.c 4 rfl
  have e5:=E1.c 5 rfl
  clear x0 x1 x2 x3 x4 x5 x6 x7 x8 x9 A0 E0 hb1
  go_wp2_with fail
  refine(Sr _).mono ?_
  rintro e2 w2 ⟨rfl,ac⟩
  go_wp2
  go_ret
  exact⟨rfl,(qtr aj ac)⟩
 simp only[jbb (show 0<=1048576-(s.sz:Int)-(es:Int) by omega)]at Sr
 generalize (s.sz:Int)=sz at *
 go_enter Tryz.func3,Tryz.ntmps3
 go_wp2_with fail
 clear KR
 refine hZ.mono ?_
 rintro e1 w1 ⟨rfl,hb1⟩
 have aj:=qtr ag hb1
 have A1:=A0.below hb1
 have E1:=E0.below hb1
 have e0:=E1.c 0 rfl
 have e1:=E1.c 1 rfl
 have e2:=E1.c 2 rfl
 have e3:=E1.c 3 rfl
 have e4:=E1.c 4 rfl
 have e5:=E1.c 5 rfl
 clear x0 x1 x2 x3 x4 x5 x6 x7 x8 x9 A0 E0 hb1 ag hZ
 go_wp2_with fail
 refine(Sr _).mono ?_
 rintro e2 w2 ⟨rfl,ac⟩
 have an:=qtr aj ac
 have A2:=A1.below ac
 have E2:=E1.below ac
 clear e0 e1 e2 e3 e4 e5 A1 E1 aj ac Sr
 have Sp:Hid (∀W,Below w2.drew.heap.size w2.drew W->Jd W (.agg (stA s a b c d e f va ia ca cb cc cd ce cf cv ci).toArray) s):=fun W k=>dQ.below (an.trans (((jab w2).trans (k.mono (nlr _))).mono an.size))
 have Sm:Hid True:=trivial
 obtain⟨x0,x1,x2,x3,x4,x5,x6,x7,x8,x9⟩:=A2.ten
 go_upto_region 8 with fail
 go_cut [6]from 23 to 27 (fun sx wx=>∃pz,sx=.pointer (some (ad pz 0))/\Hid (∃Wt Wu Wv Ww Wx Wy Wz WB WC WE WF WG WH WI WJ WK,LF (MS (.agg (stA D Wt Wu Wv Ww Wx Wy Wz WB WC WE WF WG WH WI WJ WK).toArray) D) w2.drew wx pz (outA D Wt Wu Wv Ww Wx Wy Wz WB WC WE WF WG WH WI WJ WK 0 C)))
 case first=>
  have HA:Hid (∀W,Below w2.drew.heap.size w2.drew W->Zh W (w.heap.size) (stA s a b c d e f va ia ca cb cc cd ce cf cv ci)/\Zh W (w.heap.size+1) [iv id,.string name,.string zone,iv wall,iv gap,iv fold]):=fun W k=>⟨(A2.below (jab _)).below k,(E2.below (jab _)).below k⟩
  have HV:=Sp
  have HE:=Sm
  clear x0 x1 x2 x3 x4 x5 x6 x7 x8 x9
  refine wp_region_noPanic ?_
  refine wp_region_held_drew (S:=fun w'=>Zh w' (w.heap.size) (stA s a b c d e f va ia ca cb cc cd ce cf cv ci)/\Zh w' (w.heap.size+1) [iv id,.string name,.string zone,iv wall,iv gap,iv fold]) (by kernel_rfl) (HA.out _ (brf _ _)) (fun cZ=>?_)
  generalize w2.drew=wR at *
  generalize hwV:wR=wV at cZ ⊢
  have h:L0 wR wV none:=by rw[<- hwV];exact⟨brf _ _,fun g e=>by cases e⟩
  clear hwV
  refine wpAnyH_take (i:=0) (v:=?_) rfl (by kernel_rfl) (by kernel_rfl) (by kernel_rfl) (fun _ _ _ h=>h) (Or.inl ⟨by kernel_rfl,?_⟩) cZ ?_
  rotate_left
  focus (intro wq dA;(try dsimp only at dA);obtain⟨LK,LL,LN,LP,LQ,LR,LS,LT,LU,LV⟩:=dA.1.ten;go_simp;try with_reducible rfl)
  (try simp only[Act.put,qq1,qq2,qq3])
  refine wpAnyH_take (i:=2) (v:=?_) rfl (by kernel_rfl) (by kernel_rfl) (by kernel_rfl) (fun _ _ _ h=>h) (Or.inl ⟨by kernel_rfl,?_⟩) cZ ?_
  rotate_left
  focus (intro wq dA;(try dsimp only at dA);have Ta:=dA.2.c 0 rfl;have Tb:=dA.2.c 1 rfl;have Tc:=dA.2.c 2 rfl;have Td:=dA.2.c 3 rfl;have Te:=dA.2.c 4 rfl;have Tf:=dA.2.c 5 rfl;go_simp;try with_reducible rfl)
  (try simp only[Act.put,qq1,qq2,qq3])
  repeat'
   ((first
    |((with_reducible have _:L0 _ _ none:=h);refine rdy2 1 5 (by kernel_rfl) rfl rfl (fun K hK=>?_) (fun K hK=>?_))
    |((with_reducible have _:L0 _ _ (some _):=h);refine rdy1 1 (by kernel_rfl) rfl (fun K hK=>?_))
    |((with_reducible have _:L1 _ _ _ none _:=h);refine rdy2 3 5 (by kernel_rfl) rfl rfl (fun K hK=>?_) (fun K hK=>?_))
    |((with_reducible have _:L1 _ _ _ (some _) _:=h);refine rdy1 3 (by kernel_rfl) rfl (fun K hK=>?_))
    |((with_reducible have _:L2 _ _ _ none:=h);refine rdy2 4 5 (by kernel_rfl) rfl rfl (fun K hK=>?_) (fun K hK=>?_))
    |((with_reducible have _:L2 _ _ _ (some _):=h);refine rdy1 4 (by kernel_rfl) rfl (fun K hK=>?_))
    |((with_reducible have _:L3 _ _ _ none:=h);refine rdy1 5 (by kernel_rfl) rfl (fun K hK=>?_))
    |fail);all_goals
    ((go_simp;first
     |(refine(lB _ (HV.out _ h.bel)).mono ?_;rintro q wV ⟨v2,rfl,hO,hb⟩;replace h:=h.s1 hO hb;clear hO;clear hb;go_wp2_with fail;refine hK.out _ _ (HA.out _ h.bel) (fun cZ=>?_))
     |(refine(SE _).mono ?_;rintro q wV ⟨rfl,hb⟩;replace h:=h.lb.s2 (P:=fun W=>∃B,OwnSt W B v2 s) (h.own.elim fun B k=>⟨B,k.below hb⟩) hb;clear hb;go_wp2_with fail;refine hK.out _ _ (HA.out _ h.bel) (fun cZ=>?_))
     |(obtain⟨B2,hO⟩:=h.own;refine(JK _ _ _ hO).mono ?_;rintro q wV hP;obtain⟨Wt,Wu,Wv,Ww,Wx,Wy,Wz,WB,WC,WE,WF,WG,WH,WI,WJ,WK,rfl,hF⟩:=hP.ex;have hb:=hP.bel;replace h:=h.lb.s3 (M:=MS (.agg (stA D Wt Wu Wv Ww Wx Wy Wz WB WC WE WF WG WH WI WJ WK).toArray) D) (MS.from hF) hb;clear hP hF hO;clear hb;go_wp2_with fail;refine hK.out _ _ (HA.out _ h.bel) (fun cZ=>?_))
     |(refine hK.out _ _ (HA.out _ (h.bel.alloc h.bel.size _)) (fun cZ=>?_);(first|replace h:=h.al (MS.ok _ _)|replace h:=h.al (fun W W' k hb=>k.elim fun B k=>⟨B,k.below hb⟩)|replace h:=h.al|fail);generalize wV.heap.size=gz at *;generalize wV.alloc (.cells #[.int .i64 0,nS,nS,nS,nS,nS,nS,.int .i64 0,nS,nS,.int .i64 0,.int .i64 0] 45)=wV at *)
     |fail);(try simp only[Act.put,qq1,qq2,qq3]);clear hK K))
  all_goals
   refine rdy1 6 (by kernel_rfl) rfl (fun K hK=>?_)
   obtain⟨hV,K7⟩:=h.lb.var _ rfl
   obtain⟨r0,r1,r2,r3,r4,r5,r6,r7,r8,r9,SN,SO⟩:=hV.twC
   obtain⟨f0,f1,f2,f3,f4,f5,f6,f7,f8,f9,SJ,SK⟩:=hV.twF
   obtain⟨W,hW,hv,T,hz,J8⟩:=hV.fin3 (iv D.tx) (.slice Wt D.now.rules.length WC) (.slice Wu D.now.zones.length WE) (.slice Wv D.now.links.length WF) (.slice Ww D.was.rules.length WG) (.slice Wx D.was.zones.length WH) (.slice Wy D.was.links.length WI) (iv D.cur) (.slice Wz D.vs.length WJ) (.slice WB D.ix.length WK) (iv 0) (iv C)
   have hF:=h.fin (MS.ok _ _) T hz J8 hv
   go_simp
   refine hK.out _ _ (HA.out _ hF.bel) (fun cZ=>?_)
   clear hK K hW hV K7 hv T hz J8 r0 r1 r2 r3 r4 r5 r6 r7 r8 r9 SN SO f0 f1 f2 f3 f4 f5 f6 f7 f8 f9 SJ SK
   try simp only[Act.put,List.getElem_toArray,List.getElem_cons_succ,List.getElem_cons_zero,qq1,qq2,qq3]
   refine wpAnyH_done (by kernel_rfl) ?_ _
   refine NoPanic.normal ?_
   go_wp2
   go_meet
   exact⟨gz,rfl,Wt,Wu,Wv,Ww,Wx,Wy,Wz,WB,WC,WE,WF,WG,WH,WI,WJ,WK,hF⟩
 obtain⟨pw,rfl,hL⟩:=hcut
 obtain⟨Wt,Wu,Wv,Ww,Wx,Wy,Wz,WB,WC,WE,WF,WG,WH,WI,WJ,WK,hL⟩:=hL.out
 obtain⟨w3,gm⟩:=qea wc
 subst gm
 obtain⟨pB,pU,hM,_,hU,_⟩:=hL.mem
 have V3:=hL.var
 have ar:=(jab w2).trans (hL.bel.mono (nlr _))
 have ax:=qtr an ar
 have A3:=A2.below ar
 have E3:=E2.below ar
 have Ts:pw<w3.heap.size:=qbl (V3.c 0 rfl)
 have la:w.heap.size+1<w3.heap.size:=qbl (E3.c 0 rfl)
 have HF:Hid (∀wk,Bw w3 wk->Jd wk (.agg (stA D Wt Wu Wv Ww Wx Wy Wz WB WC WE WF WG WH WI WJ WK).toArray) D):=fun wk bk=>hM.2 wk fun k _ h2=>bk.block k (Nat.lt_of_lt_of_le h2 hM.1)
 have kN:=brf w3.heap.size w3
 clear ar A2 E2 an hM hU hL Sp Sm x0 x1 x2 x3 x4 x5 x6 x7 x8 x9
 obtain⟨x0,x1,x2,x3,x4,x5,x6,x7,x8,x9⟩:=A3.ten
 go_wp2_with fail
 refine(lB _ (dQ.below ax)).mono ?_
 rintro e4 w4 ⟨v4,rfl,dX,aD⟩
 have aR:=qtr ax aD
 have A4:=A3.below aD
 have E4:=E3.below aD
 have uH:=dX.st
 have mN:=qtr kN aD
 have V4:=V3.below aD
 have l4:=aD.size
 obtain⟨ga,gb,gc,gd,ge,gf,gv,gx,KO,_⟩:=dX.form
 subst KO
 have Ep:=hid dX
 clear x0 x1 x2 x3 x4 x5 x6 x7 x8 x9 aD A3 E3 ax dX kN V3
 have b5:=qal w4 (.cells (stO s ga gb gc gd ge gf gv gx).toArray 43)
 have bG:=qtr aR b5
 have A5:=A4.below b5
 have E5:=E4.below b5
 have sl:=uH.below b5
 have gG:=qtr mN b5
 have V5:=V4.below b5
 have X5:=Zh.new w4 (stO s ga gb gc gd ge gf gv gx) 43
 have z5:(w4.alloc (.cells (stO s ga gb gc gd ge gf gv gx).toArray 43)).heap.size=w4.heap.size+1:=by simp
 obtain⟨w5,T5⟩:=qeb (w4.alloc (.cells (stO s ga gb gc gd ge gf gv gx).toArray 43))
 rw[T5]at b5 bG A5 E5 sl gG V5 X5 z5
 have Sn:Hid (∀W,Below w5.drew.heap.size w5.drew W->Jd W (.agg (stO s ga gb gc gd ge gf gv gx).toArray) s):=fun W k=>(sl.below (jab w5)).below k
 have Sk:Hid (∀W,Below w5.drew.heap.size w5.drew W->Zx W):=fun W k=>(cg.of_below (bG.trans (((jab w5).trans (k.mono (nlr _))).mono bG.size)))
 obtain⟨y0,y1,y2,y3,y4,y5,y6,y7,y8,y9⟩:=X5.ten
 clear A4 E4 aR uH mN V4
 go_upto_region 10 with fail
 go_cut [8]from 30 to 33 (fun sx wx=>∃pz,sx=.pointer (some (ad pz 0))/\Hid (∃U0 U1 U2 U3 U4 U5 U6 U7 U8 U9 Ua Ub Uc Ud Ue Uf,LF (MP (.agg (stA D U0 U1 U2 U3 U4 U5 U6 U7 U8 U9 Ua Ub Uc Ud Ue Uf).toArray) D) w5.drew wx pz (outA D U0 U1 U2 U3 U4 U5 U6 U7 U8 U9 Ua Ub Uc Ud Ue Uf 0 C)))
 case first=>
  have HA:Hid (∀W,Below w5.drew.heap.size w5.drew W->Zh W (w4.heap.size) (stO s ga gb gc gd ge gf gv gx)/\Zh W (w.heap.size+1) [iv id,.string name,.string zone,iv wall,iv gap,iv fold]):=fun W k=>⟨(X5.below (jab _)).below k,(E5.below (jab _)).below k⟩
  have HV:=Sn
  have HE:=Sk
  clear y0 y1 y2 y3 y4 y5 y6 y7 y8 y9
  refine wp_region_noPanic ?_
  refine wp_region_held_drew (S:=fun w'=>Zh w' (w4.heap.size) (stO s ga gb gc gd ge gf gv gx)/\Zh w' (w.heap.size+1) [iv id,.string name,.string zone,iv wall,iv gap,iv fold]) (by kernel_rfl) (HA.out _ (brf _ _)) (fun cZ=>?_)
  generalize w5.drew=wR at *
  generalize hwV:wR=wV at cZ ⊢
  have h:L0 wR wV none:=by rw[<- hwV];exact⟨brf _ _,fun g e=>by cases e⟩
  clear hwV
  refine wpAnyH_take (i:=0) (v:=?_) rfl (by kernel_rfl) (by kernel_rfl) (by kernel_rfl) (fun _ _ _ h=>h) (Or.inl ⟨by kernel_rfl,?_⟩) cZ ?_
  rotate_left
  focus (intro wq dA;(try dsimp only at dA);obtain⟨LK,LL,LN,LP,LQ,LR,LS,LT,LU,LV⟩:=dA.1.ten;go_simp;try with_reducible rfl)
  (try simp only[Act.put,qq1,qq2,qq3])
  refine wpAnyH_take (i:=1) (v:=?_) rfl (by kernel_rfl) (by kernel_rfl) (by kernel_rfl) (fun _ _ _ h=>h) (Or.inl ⟨by kernel_rfl,?_⟩) cZ ?_
  rotate_left
  focus (intro wq dA;(try dsimp only at dA);have Ta:=dA.2.c 0 rfl;have Tb:=dA.2.c 1 rfl;have Tc:=dA.2.c 2 rfl;have Td:=dA.2.c 3 rfl;have Te:=dA.2.c 4 rfl;have Tf:=dA.2.c 5 rfl;go_simp;try with_reducible rfl)
  (try simp only[Act.put,qq1,qq2,qq3])
  repeat'
   ((first
    |((with_reducible have _:L0 _ _ none:=h);refine rdy2 2 4 (by kernel_rfl) rfl rfl (fun K hK=>?_) (fun K hK=>?_))
    |((with_reducible have _:L0 _ _ (some _):=h);refine rdy1 2 (by kernel_rfl) rfl (fun K hK=>?_))
    |((with_reducible have _:L2 _ _ _ none:=h);refine rdy2 3 4 (by kernel_rfl) rfl rfl (fun K hK=>?_) (fun K hK=>?_))
    |((with_reducible have _:L2 _ _ _ (some _):=h);refine rdy1 3 (by kernel_rfl) rfl (fun K hK=>?_))
    |((with_reducible have _:L3 _ _ _ none:=h);refine rdy1 4 (by kernel_rfl) rfl (fun K hK=>?_))
    |fail);all_goals
    ((go_simp;first
     |(refine(SE _).mono ?_;rintro q wV ⟨rfl,hb⟩;replace h:=h.s2 (P:=fun _=>True) trivial hb;clear hb;go_wp2_with fail;refine hK.out _ _ (HA.out _ h.bel) (fun cZ=>?_))
     |(refine(Fg _ _ (HE.out _ h.bel) (HV.out _ h.bel)).mono ?_;rintro q wV hP;obtain⟨U0,U1,U2,U3,U4,U5,U6,U7,U8,U9,Ua,Ub,Uc,Ud,Ue,Uf,rfl,hF⟩:=hP.ex;have hb:=hP.bel;replace h:=h.lb.s3 (M:=MP (.agg (stA D U0 U1 U2 U3 U4 U5 U6 U7 U8 U9 Ua Ub Uc Ud Ue Uf).toArray) D) (hF) hb;clear hP hF;clear hb;go_wp2_with fail;refine hK.out _ _ (HA.out _ h.bel) (fun cZ=>?_))
     |(refine hK.out _ _ (HA.out _ (h.bel.alloc h.bel.size _)) (fun cZ=>?_);(first|replace h:=h.al (MP.ok _ _)|replace h:=h.al (fun W W' k hb=>trivial)|replace h:=h.al|fail);generalize wV.heap.size=gz at *;generalize wV.alloc (.cells #[.int .i64 0,nS,nS,nS,nS,nS,nS,.int .i64 0,nS,nS,.int .i64 0,.int .i64 0] 45)=wV at *)
     |fail);(try simp only[Act.put,qq1,qq2,qq3]);clear hK K))
  all_goals
   refine rdy1 5 (by kernel_rfl) rfl (fun K hK=>?_)
   obtain⟨hV,K7⟩:=h.lb.var _ rfl
   obtain⟨r0,r1,r2,r3,r4,r5,r6,r7,r8,r9,SN,SO⟩:=hV.twC
   obtain⟨f0,f1,f2,f3,f4,f5,f6,f7,f8,f9,SJ,SK⟩:=hV.twF
   obtain⟨W,hW,hv,T,hz,J8⟩:=hV.fin3 (iv D.tx) (.slice U0 D.now.rules.length U8) (.slice U1 D.now.zones.length U9) (.slice U2 D.now.links.length Ua) (.slice U3 D.was.rules.length Ub) (.slice U4 D.was.zones.length Uc) (.slice U5 D.was.links.length Ud) (iv D.cur) (.slice U6 D.vs.length Ue) (.slice U7 D.ix.length Uf) (iv 0) (iv C)
   have hF:=h.fin (MP.ok _ _) T hz J8 hv
   go_simp
   refine hK.out _ _ (HA.out _ hF.bel) (fun cZ=>?_)
   clear hK K hW hV K7 hv T hz J8 r0 r1 r2 r3 r4 r5 r6 r7 r8 r9 SN SO f0 f1 f2 f3 f4 f5 f6 f7 f8 f9 SJ SK
   try simp only[Act.put,List.getElem_toArray,List.getElem_cons_succ,List.getElem_cons_zero,qq1,qq2,qq3]
   refine wpAnyH_done (by kernel_rfl) ?_ _
   refine NoPanic.normal ?_
   go_wp2
   go_meet
   exact⟨gz,rfl,U0,U1,U2,U3,U4,U5,U6,U7,U8,U9,Ua,Ub,Uc,Ud,Ue,Uf,hF⟩
 obtain⟨pg,rfl,hL⟩:=hcut
 obtain⟨U0,U1,U2,U3,U4,U5,U6,U7,U8,U9,Ua,Ub,Uc,Ud,Ue,Uf,hL⟩:=hL.out
 obtain⟨w6,qO⟩:=qea wc
 subst qO
 obtain⟨GB,GU,uj,Tg,Th,To⟩:=hL.mem
 have uj:StC w6 GB GU (.agg (stA D U0 U1 U2 U3 U4 U5 U6 U7 U8 U9 Ua Ub Uc Ud Ue Uf).toArray) D:=uj
 have G6:=hL.var
 have hb6:=(jab w5).trans (hL.bel.mono (nlr _))
 have l6:w4.heap.size+1<=GB:=by have h1:w5.heap.size<=GB:=Tg;omega
 have Tp:w4.heap.size+1<=pg:=by have h1:w5.heap.size<=pg:=hL.ge;omega
 have cp:=qtr bG hb6
 have A6:=A5.below hb6
 have E6:=E5.below hb6
 have X6:=X5.below hb6
 have xN:=sl.below hb6
 have EH:=qtr b5 hb6
 have qM:=qtr gG hb6
 have V6:=V5.below hb6
 have z6:pg<w6.heap.size/\GU<=w6.heap.size:=⟨qbl (G6.c 0 rfl),Th⟩
 clear y0 y1 y2 y3 y4 y5 y6 y7 y8 y9 hb6 A5 E5 X5 bG sl b5 gG z5 V5 Tg Th hL T5 Sn Sk
 obtain⟨g0,g1,g2,g3,g4,g5,g6,g7,g8,g9⟩:=G6.ten
 have SL:=G6.c 10 rfl
 have SM:=G6.c 11 rfl
 obtain⟨v0,v1,v2,v3,v4,v5,v6,v7,v8,v9⟩:=V6.ten
 have v10:=V6.c 10 rfl
 have v11:=V6.c 11 rfl
 go_wp2_with fail
 clear g0 g1 g2 g3 g4 g5 g6 g7 g8 g9 SL SM v0 v1 v2 v3 v4 v5 v6 v7 v8 v9 v10 v11
 refine(hQ _ _ _ _ _ _ _ _ _ _ _ _ _ _ _ _ _ _ _ _ _ _ _ _ _ _ _ _ _ _ _ _ _ uj.st (HF.out _ qM)).mono ?_
 rintro e7 w7 ⟨rfl,ay⟩
 have bD:=jab w7
 have nL:=qtr ay bD
 have jr:Hid (Bw w w7.drew):=qtr cp nL
 have AD:=A6.below nL
 have XD:=X6.below nL
 have SZ:Hid (Zh w7.drew (w.heap.size+1) [iv id,.string name,.string zone,iv wall,iv gap,iv fold]):=E6.below nL
 have xc:=hid AD
 have xu:=hid XD
 have Ew:Hid (Jd w7.drew (.agg (stO s ga gb gc gd ge gf gv gx).toArray) s):=xN.below nL
 have rN:Hid (StC w7.drew GB GU (.agg (stA D U0 U1 U2 U3 U4 U5 U6 U7 U8 U9 Ua Ub Uc Ud Ue Uf).toArray) D):=uj.below nL
 have Hc:Hid (Zh w7.drew pg (outA D U0 U1 U2 U3 U4 U5 U6 U7 U8 U9 Ua Ub Uc Ud Ue Uf 0 C)):=G6.below nL
 have L1:Hid (Zh w7.drew pw (outA D Wt Wu Wv Ww Wx Wy Wz WB WC WE WF WG WH WI WJ WK 0 C)):=V6.below nL
 have z7:pg<w7.drew.heap.size/\GU<=w7.drew.heap.size:=And.intro (Nat.lt_of_lt_of_le z6.1 nL.size) (Nat.le_trans z6.2 nL.size)
 have Ez:Hid (Bw w3 w7.drew):=qtr qM nL
 have DZ:Hid (Bw w4 w7.drew):=qtr EH nL
 obtain⟨x0,x1,x2,x3,x4,x5,x6,x7,x8,x9⟩:=AD.ten
 obtain⟨y0,y1,y2,y3,y4,y5,y6,y7,y8,y9⟩:=XD.ten
 have mj:=lB w7.drew (dQ.below jr.out)
 clear A6 E6 X6 AD XD xN bD nL ay cp EH uj qM G6 V6 z6
 go_wp2_with fail
 go_region_held3 (fun w'=>w'.cell? (ad w.heap.size 0)=some (iv s.tx)/\w'.cell? (ad w.heap.size 1)=some (.slice a s.now.rules.length ca)/\w'.cell? (ad w.heap.size 2)=some (.slice b s.now.zones.length cb)/\w'.cell? (ad w.heap.size 3)=some (.slice c s.now.links.length cc)/\w'.cell? (ad w.heap.size 4)=some (.slice d s.was.rules.length cd)/\w'.cell? (ad w.heap.size 5)=some (.slice e s.was.zones.length ce)/\w'.cell? (ad w.heap.size 6)=some (.slice f s.was.links.length cf)/\w'.cell? (ad w.heap.size 7)=some (iv s.cur)/\w'.cell? (ad w.heap.size 8)=some (.slice va s.vs.length cv)/\w'.cell? (ad w.heap.size 9)=some (.slice ia s.ix.length ci)/\w'.cell? (ad w4.heap.size 0)=some (iv s.tx)/\w'.cell? (ad w4.heap.size 1)=some (so ga s.now.rules.length s.now.rules.length)/\w'.cell? (ad w4.heap.size 2)=some (so gb s.now.zones.length s.now.zones.length)/\w'.cell? (ad w4.heap.size 3)=some (so gc s.now.links.length s.now.links.length)/\w'.cell? (ad w4.heap.size 4)=some (so gd s.was.rules.length s.was.rules.length)/\w'.cell? (ad w4.heap.size 5)=some (so ge s.was.zones.length s.was.zones.length)/\w'.cell? (ad w4.heap.size 6)=some (so gf s.was.links.length s.was.links.length)/\w'.cell? (ad w4.heap.size 7)=some (iv s.cur)/\w'.cell? (ad w4.heap.size 8)=some (so gv s.vs.length s.vs.length)/\w'.cell? (ad w4.heap.size 9)=some (so gx s.ix.length s.ix.length)) (go_keep) (first|(go_at_call 7;refine mj.mono ?_;rintro e8 w8 ⟨v8,rfl,dF,qs⟩;have BC:=dF.st;clear dF;obtain⟨Lx,Ly,Lz,LA,LB,LC,LD,LE,LF,LG⟩:=(xc.out.below qs).ten;obtain⟨LK,LL,LN,LP,LQ,LR,LS,LT,LU,LV⟩:=(xu.out.below qs).ten;have Jw:=Jy _ v8 w8 (Ew.out.below qs) BC;obtain⟨a7,b7,c7,d7,e7,f7,PP,Pt,O8,Ob,Od,Oe,Of,Og,Oi,Oh,KP,_⟩:=BC.form;subst KP;clear BC)|(go_at_call 11;refine Jw.mono ?_;rintro e9 w9 ⟨rfl,bZ⟩;obtain⟨mU,rd,LW,LX,LY,LZ,M0,M3,M4,M5⟩:=((xc.out.below qs).below bZ).ten;obtain⟨De,Di,Dk,Dm,Do,Dq,Ds,Dt,Du,Dv⟩:=((xu.out.below qs).below bZ).ten))
 have oS:=qtr qs bZ
 have fS:=qtr jr.out oS
 have A9:=xc.out.below oS
 have E9:=SZ.out.below oS
 have X9:=xu.out.below oS
 have Fb:=rN.out.below oS
 have vE:=qtr Ez.out oS
 have z9:=And.intro (Nat.lt_of_lt_of_le z7.1 oS.size) (Nat.le_trans z7.2 oS.size)
 have G9:=Hc.out.below oS
 have V9:=L1.out.below oS
 have za:=qtr DZ.out oS
 have FB:=Ep.out.upto l4 za
 have GD:=za.size
 clear x0 x1 x2 x3 x4 x5 x6 x7 x8 x9 y0 y1 y2 y3 y4 y5 y6 y7 y8 y9 Lx Ly Lz LA LB LC LD LE LF LG LK LL LN LP LQ LR LS LT LU LV
 clear mU rd LW LX LY LZ M0 M3 M4 M5 De Di Dk Dm Do Dq Ds Dt Du Dv
 clear z7 jr xc SZ xu rN Ez DZ Ep Ew Hc L1 qs bZ oS za mj
 obtain⟨y0,y1,y2,y3,y4,y5,y6,y7,y8,y9⟩:=X9.ten
 go_wp2_with fail
 refine(Fk _ _ _ _ FB GD).mono ?_
 rintro Ou MF ⟨⟨K,rfl⟩,wJ⟩
 have lW:=wJ.below (fun x hx=>by have:w3.heap.size<=x/\x<w4.heap.size:=hx;omega) fS.size fS
 have DV:=A9.touch wJ (show ¬(w3.heap.size<=w.heap.size/\w.heap.size<w4.heap.size) by omega)
 have SS:=E9.touch wJ (show ¬(w3.heap.size<=w.heap.size+1/\w.heap.size+1<w4.heap.size) by omega)
 have pJ:=Fb.touch wJ (fun g hg _=>by show ¬(w3.heap.size<=g/\g<w4.heap.size);omega)
 have qL:=wJ.below (B:=w3.heap.size) (fun x hx=>by have:w3.heap.size<=x/\x<w4.heap.size:=hx;omega) vE.size vE
 have z10:=And.intro (Nat.lt_of_lt_of_le z9.1 wJ.size) (Nat.le_trans z9.2 wJ.size)
 have WL:=G9.touch wJ (show ¬(w3.heap.size<=pg/\pg<w4.heap.size) by omega)
 have WX:=V9.touch wJ (show ¬(w3.heap.size<=pw/\pw<w4.heap.size) by omega)
 have kk:¬((K:Int)<0):=by omega
 clear wJ Fb vE A9 E9 X9 fS FB Fk GD y0 y1 y2 y3 y4 y5 y6 y7 y8 y9 G9 V9 z9
 obtain⟨g0,g1,g2,g3,g4,g5,g6,g7,g8,g9⟩:=WL.ten
 have SL:=WL.c 10 rfl
 have SM:=WL.c 11 rfl
 obtain⟨v0,v1,v2,v3,v4,v5,v6,v7,v8,v9⟩:=WX.ten
 have v10:=WX.c 10 rfl
 have v11:=WX.c 11 rfl
 go_wp2_with fail
 clear g0 g1 g2 g3 g4 g5 g6 g7 g8 g9 SL SM v0 v1 v2 v3 v4 v5 v6 v7 v8 v9 v10 v11
 refine(hQ _ _ _ _ _ _ _ _ _ _ _ _ _ _ _ _ _ _ _ _ _ _ _ _ _ _ _ _ _ _ _ _ _ pJ.st (HF.out _ qL)).mono ?_
 rintro Ov MG ⟨rfl,ku⟩
 have pj:=qtr lW ku
 have DW:=DV.below ku
 have ST:=SS.below ku
 have uh:=pJ.below ku
 have vx:=qtr qL ku
 have WM:=WL.below ku
 have L5:=WX.below ku
 have z11:=And.intro (Nat.lt_of_lt_of_le z10.1 ku.size) (Nat.le_trans z10.2 ku.size)
 clear ku lW DV SS pJ qL WL WX z10
 obtain⟨g0,g1,g2,g3,g4,g5,g6,g7,g8,g9⟩:=WM.ten
 have SL:=WM.c 10 rfl
 have SM:=WM.c 11 rfl
 have hK:=laws_markStoreOut D U0 U1 U2 U3 U4 U5 U6 U7 U8 U9 Ua Ub Uc Ud Ue Uf 0 C _ _ MG uh (by omega) aH aF Yz.vl Yz.xl
 have Fd:=fun w h=>laws_heldStoreOut D U0 U1 U2 U3 U4 U5 U6 U7 U8 U9 Ua Ub Uc Ud Ue Uf 0 C GB GU w h aH aF Yz.vl Yz.xl
 have OU:(0:Int)<=((1+sc D:Nat):Int):=by omega
 generalize hd4:1+sc D=d3 at *
 clear hd4
 go_wp2_with fail
 clear g0 g1 g2 g3 g4 g5 g6 g7 g8 g9 SL SM
 refine hK.mono ?_
 rintro Ow PT ⟨rfl,rB,yr⟩
 have tS:=yr.below (fun x hx=>by have:GB<=x/\x<GU:=hx;omega) pj.size pj
 have DX:=DW.touch yr (show ¬(GB<=w.heap.size/\w.heap.size<GU) by omega)
 have SW:=ST.touch yr (show ¬(GB<=w.heap.size+1/\w.heap.size+1<GU) by omega)
 have vy:=yr.below (B:=w3.heap.size) (fun x hx=>by have:GB<=x/\x<GU:=hx;omega) vx.size vx
 have WN:=WM.touch yr (show ¬(GB<=pg/\pg<GU) by omega)
 have Lg:=L5.touch yr (show ¬(GB<=pw/\pw<GU) by omega)
 clear yr uh vx DW ST pj hK WM L5
 obtain⟨g0,g1,g2,g3,g4,g5,g6,g7,g8,g9⟩:=WN.ten
 have SL:=WN.c 10 rfl
 have SM:=WN.c 11 rfl
 have dd:¬((d3:Int)<0):=by omega
 go_wp2_with fail
 clear g0 g1 g2 g3 g4 g5 g6 g7 g8 g9 SL SM
 refine(Fd _ rB).mono ?_
 rintro Ox PU ⟨rfl,kv⟩
 have pk:=qtr tS kv
 have DY:=DX.below kv
 have SX:=SW.below kv
 have wu:=rB.below kv
 have vB:=qtr vy kv
 have Ha:=WN.below kv
 have Nk:=Lg.below kv
 clear kv tS DX SW rB vy WN Lg
 have So:Hid (∀W,Below PU.drew.heap.size PU.drew W->Jd W (.agg (stA s a b c d e f va ia ca cb cc cd ce cf cv ci).toArray) s):=fun W k=>dQ.below (pk.trans (((jab PU).trans (k.mono (nlr _))).mono pk.size))
 have Sl:Hid (∀W,Below PU.drew.heap.size PU.drew W->Zx W):=fun W k=>(cg.of_below (pk.trans (((jab PU).trans (k.mono (nlr _))).mono pk.size)))
 obtain⟨x0,x1,x2,x3,x4,x5,x6,x7,x8,x9⟩:=DY.ten
 go_upto_region 27 with fail
 go_cut [12]from 65 to 69 (fun sx wx=>∃pz,sx=.pointer (some (ad pz 0))/\Hid (∃JS gZ FL yx yM yZ BE CJ aX cU fw FO JX mu BT CL,LF (MP (.agg (stA D JS gZ FL yx yM yZ BE CJ aX cU fw FO JX mu BT CL).toArray) D) PU.drew wx pz (outA D JS gZ FL yx yM yZ BE CJ aX cU fw FO JX mu BT CL 0 C)))
 case first=>
  have HA:Hid (∀W,Below PU.drew.heap.size PU.drew W->Zh W (w.heap.size) (stA s a b c d e f va ia ca cb cc cd ce cf cv ci)/\Zh W (w.heap.size+1) [iv id,.string name,.string zone,iv wall,iv gap,iv fold]):=fun W k=>⟨(DY.below (jab _)).below k,(SX.below (jab _)).below k⟩
  have HV:=So
  have HE:=Sl
  clear x0 x1 x2 x3 x4 x5 x6 x7 x8 x9
  refine wp_region_noPanic ?_
  refine wp_region_held_drew (S:=fun w'=>Zh w' (w.heap.size) (stA s a b c d e f va ia ca cb cc cd ce cf cv ci)/\Zh w' (w.heap.size+1) [iv id,.string name,.string zone,iv wall,iv gap,iv fold]) (by kernel_rfl) (HA.out _ (brf _ _)) (fun cZ=>?_)
  generalize PU.drew=wR at *
  generalize hwV:wR=wV at cZ ⊢
  have h:L0 wR wV none:=by rw[<- hwV];exact⟨brf _ _,fun g e=>by cases e⟩
  clear hwV
  refine wpAnyH_take (i:=0) (v:=?_) rfl (by kernel_rfl) (by kernel_rfl) (by kernel_rfl) (fun _ _ _ h=>h) (Or.inl ⟨by kernel_rfl,?_⟩) cZ ?_
  rotate_left
  focus (intro wq dA;(try dsimp only at dA);obtain⟨LK,LL,LN,LP,LQ,LR,LS,LT,LU,LV⟩:=dA.1.ten;go_simp;try with_reducible rfl)
  (try simp only[Act.put,qq1,qq2,qq3])
  refine wpAnyH_take (i:=2) (v:=?_) rfl (by kernel_rfl) (by kernel_rfl) (by kernel_rfl) (fun _ _ _ h=>h) (Or.inl ⟨by kernel_rfl,?_⟩) cZ ?_
  rotate_left
  focus (intro wq dA;(try dsimp only at dA);have Ta:=dA.2.c 0 rfl;have Tb:=dA.2.c 1 rfl;have Tc:=dA.2.c 2 rfl;have Td:=dA.2.c 3 rfl;have Te:=dA.2.c 4 rfl;have Tf:=dA.2.c 5 rfl;go_simp;try with_reducible rfl)
  (try simp only[Act.put,qq1,qq2,qq3])
  repeat'
   ((first
    |((with_reducible have _:L0 _ _ none:=h);refine rdy2 1 5 (by kernel_rfl) rfl rfl (fun K hK=>?_) (fun K hK=>?_))
    |((with_reducible have _:L0 _ _ (some _):=h);refine rdy1 1 (by kernel_rfl) rfl (fun K hK=>?_))
    |((with_reducible have _:L1 _ _ _ none _:=h);refine rdy2 3 5 (by kernel_rfl) rfl rfl (fun K hK=>?_) (fun K hK=>?_))
    |((with_reducible have _:L1 _ _ _ (some _) _:=h);refine rdy1 3 (by kernel_rfl) rfl (fun K hK=>?_))
    |((with_reducible have _:L2 _ _ _ none:=h);refine rdy2 4 5 (by kernel_rfl) rfl rfl (fun K hK=>?_) (fun K hK=>?_))
    |((with_reducible have _:L2 _ _ _ (some _):=h);refine rdy1 4 (by kernel_rfl) rfl (fun K hK=>?_))
    |((with_reducible have _:L3 _ _ _ none:=h);refine rdy1 5 (by kernel_rfl) rfl (fun K hK=>?_))
    |fail);all_goals
    ((go_simp;first
     |(refine(lB _ (HV.out _ h.bel)).mono ?_;rintro q wV ⟨v2,rfl,hO,hb⟩;replace h:=h.s1 hO hb;clear hO;clear hb;go_wp2_with fail;refine hK.out _ _ (HA.out _ h.bel) (fun cZ=>?_))
     |(refine(SE _).mono ?_;rintro q wV ⟨rfl,hb⟩;replace h:=h.lb.s2 (P:=fun W=>∃B,OwnSt W B v2 s) (h.own.elim fun B k=>⟨B,k.below hb⟩) hb;clear hb;go_wp2_with fail;refine hK.out _ _ (HA.out _ h.bel) (fun cZ=>?_))
     |(obtain⟨B2,hO⟩:=h.own;refine(Fg _ _ (HE.out _ h.bel) hO.st).mono ?_;rintro q wV hP;obtain⟨JS,gZ,FL,yx,yM,yZ,BE,CJ,aX,cU,fw,FO,JX,mu,BT,CL,rfl,hF⟩:=hP.ex;have hb:=hP.bel;replace h:=h.lb.s3 (M:=MP (.agg (stA D JS gZ FL yx yM yZ BE CJ aX cU fw FO JX mu BT CL).toArray) D) (hF) hb;clear hP hF hO;clear hb;go_wp2_with fail;refine hK.out _ _ (HA.out _ h.bel) (fun cZ=>?_))
     |(refine hK.out _ _ (HA.out _ (h.bel.alloc h.bel.size _)) (fun cZ=>?_);(first|replace h:=h.al (MP.ok _ _)|replace h:=h.al (fun W W' k hb=>k.elim fun B k=>⟨B,k.below hb⟩)|replace h:=h.al|fail);generalize wV.heap.size=gz at *;generalize wV.alloc (.cells #[.int .i64 0,nS,nS,nS,nS,nS,nS,.int .i64 0,nS,nS,.int .i64 0,.int .i64 0] 45)=wV at *)
     |fail);(try simp only[Act.put,qq1,qq2,qq3]);clear hK K))
  all_goals
   refine rdy1 6 (by kernel_rfl) rfl (fun K hK=>?_)
   obtain⟨hV,K7⟩:=h.lb.var _ rfl
   obtain⟨r0,r1,r2,r3,r4,r5,r6,r7,r8,r9,SN,SO⟩:=hV.twC
   obtain⟨f0,f1,f2,f3,f4,f5,f6,f7,f8,f9,SJ,SK⟩:=hV.twF
   obtain⟨W,hW,hv,T,hz,J8⟩:=hV.fin3 (iv D.tx) (.slice JS D.now.rules.length aX) (.slice gZ D.now.zones.length cU) (.slice FL D.now.links.length fw) (.slice yx D.was.rules.length FO) (.slice yM D.was.zones.length JX) (.slice yZ D.was.links.length mu) (iv D.cur) (.slice BE D.vs.length BT) (.slice CJ D.ix.length CL) (iv 0) (iv C)
   have hF:=h.fin (MP.ok _ _) T hz J8 hv
   go_simp
   refine hK.out _ _ (HA.out _ hF.bel) (fun cZ=>?_)
   clear hK K hW hV K7 hv T hz J8 r0 r1 r2 r3 r4 r5 r6 r7 r8 r9 SN SO f0 f1 f2 f3 f4 f5 f6 f7 f8 f9 SJ SK
   try simp only[Act.put,List.getElem_toArray,List.getElem_cons_succ,List.getElem_cons_zero,qq1,qq2,qq3]
   refine wpAnyH_done (by kernel_rfl) ?_ _
   refine NoPanic.normal ?_
   go_wp2
   go_meet
   exact⟨gz,rfl,JS,gZ,FL,yx,yM,yZ,BE,CJ,aX,cU,fw,FO,JX,mu,BT,CL,hF⟩
 obtain⟨ph,rfl,hL⟩:=hcut
 obtain⟨JS,gZ,FL,yx,yM,yZ,BE,CJ,aX,cU,fw,FO,JX,mu,BT,CL,hL⟩:=hL.out
 obtain⟨PW,SI⟩:=qea wc
 subst SI
 obtain⟨Ti,Tj,ui,_,_,_⟩:=hL.mem
 have ui:StC PW Ti Tj (.agg (stA D JS gZ FL yx yM yZ BE CJ aX cU fw FO JX mu BT CL).toArray) D:=ui
 have Wf:=hL.var
 have ms:=(jab PU).trans (hL.bel.mono (nlr _))
 have tT:=qtr pk ms
 have wG:=wu.below ms
 have vD:=qtr vB ms
 have Z1:=Ha.below ms
 have WY:=Nk.below ms
 have ws:=ui.st
 clear ms pk DY SX wu vB ui Ha Nk hL So Sl x0 x1 x2 x3 x4 x5 x6 x7 x8 x9
 obtain⟨g0,g1,g2,g3,g4,g5,g6,g7,g8,g9⟩:=Wf.ten
 have SL:=Wf.c 10 rfl
 have SM:=Wf.c 11 rfl
 obtain⟨v0,v1,v2,v3,v4,v5,v6,v7,v8,v9⟩:=WY.ten
 have v10:=WY.c 10 rfl
 have v11:=WY.c 11 rfl
 go_wp2_with fail
 clear g0 g1 g2 g3 g4 g5 g6 g7 g8 g9 SL SM v0 v1 v2 v3 v4 v5 v6 v7 v8 v9 v10 v11
 refine(hQ _ _ _ _ _ _ _ _ _ _ _ _ _ _ _ _ _ _ _ _ _ _ _ _ _ _ _ _ _ _ _ _ _ ws (HF.out _ vD)).mono ?_
 rintro OA PX ⟨rfl,qr⟩
 have AU:=qtr tT qr
 have Dx:=wG.below qr
 have Z2:=Z1.below qr
 clear qr tT wG vD ws Z1 WY Wf
 obtain⟨g0,g1,g2,g3,g4,g5,g6,g7,g8,g9⟩:=Z2.ten
 have SL:=Z2.c 10 rfl
 have SM:=Z2.c 11 rfl
 go_wp2_with fail
 refine(Fd _ Dx).mono ?_
 rintro OB PY ⟨rfl,BM⟩
 go_wp2
 go_ret
 exact⟨rfl,(qtr AU BM)⟩
end
section
open Go.ChangeShapes Go.WideShapes Go.ChangeAt Go.RowKit
theorem open_event {H:Type} {enc:TypeId × Value->H} {W:World} {base:Nat} {v:Value} {d:DataW H} {p:List MemPlace}
  (hv:Value.okWide Tryz.prog W .any base 32 v) (h:DataW.Trod enc Tryz.prog W 0 (fun _=>true) true 32 v d p):∃r:EventD,v=r.v/\r.ok/\(Lit.int .i64 r.id).wf=true:=by
 obtain⟨⟨cs⟩,rfl,_⟩:=okWide_struct Tryz.underlying32 hv
 obtain⟨pi,h⟩:=h
 obtain⟨xs,k,_,_,hl,de,hf⟩:=DataW.trod_struct Tryz.underlying32 h
 rw[jlc]at hl
 have hl:cs.length=6:=by simpa [Value.cells]using hl
 have cO:xs.length=6:=de
 clear de h hv
 match xs,cO,cs,hl with
 |[y0,y1,y2,y3,y4,y5],_,[c0,c1,c2,c3,c4,c5],_=>
  have g0:=hf 0 _ rfl
  have g1:=hf 1 _ rfl
  have g2:=hf 2 _ rfl
  have g3:=hf 3 _ rfl
  have g4:=hf 4 _ rfl
  have g5:=hf 5 _ rfl
  simp[cS,cI,jxw,Value.cells]at g0 g1 g2 g3 g4 g5
  obtain⟨s0,e0,_,m0⟩:=DataW.trod_int Tryz.underlying2 g0
  obtain⟨s1,e1,_,m1⟩:=DataW.trod_string Tryz.underlying9 g1
  obtain⟨s2,e2,_,m2⟩:=DataW.trod_string Tryz.underlying9 g2
  obtain⟨s3,e3,_,m3⟩:=DataW.trod_int Tryz.underlying2 g3
  obtain⟨s4,e4,_,m4⟩:=DataW.trod_int Tryz.underlying2 g4
  obtain⟨s5,e5,_,m5⟩:=DataW.trod_int Tryz.underlying2 g5
  simp at e0 e1 e2 e3 e4 e5
  subst e0 e1 e2 e3 e4 e5
  exact⟨⟨s0,s1,s2,s3,s4,s5⟩,rfl,⟨m1,m2⟩,m0⟩
end
end Go.Proofs.YtknlhkipdfkddaaGreatDoor
namespace Go.Proofs.YtknlhkipdfkddaaGreatDoor.put
open Go.RowKit
theorem walk(s:StoreD)(v:Value)(ev:EventD)(w:World)(hv:Jd w v s)(yq:s.ok)(Rn:ev.ok)(hw:(Lit.int .i64 ev.id).wf=true)(hT:Tab w)(gw:Mx w):
  Cl 3 #[v,ev.v] w fun e w'=>e=.returned (.bool true)/\Bw w w':=
 walkP s _ _ ev v w hv yq Rn ⟨hT,gw⟩ (put_sz s ev) (fun ok=>put_ok ok ev Rn.1 Rn.2) (fun ok v w hE h=>impl_Put s v ev w hE h ok hw Rn.1 Rn.2) (fun ok v B w h=>put_spec s v ev B w h ok Rn.1 Rn.2)
end Go.Proofs.YtknlhkipdfkddaaGreatDoor.put
