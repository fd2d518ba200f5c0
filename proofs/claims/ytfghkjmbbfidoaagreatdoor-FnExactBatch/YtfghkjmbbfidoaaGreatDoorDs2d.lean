/- A release copied. The model's. -/
import Derived.Test.YtfghkjmbbfidoaaGreatDoorDSd
set_option maxHeartbeats 0
set_option linter.unusedSimpArgs false
namespace Go.Proofs.YtfghkjmbbfidoaaGreatDoor
open Go.RowKit Go.Sort
set_option maxRecDepth 20000 in
theorem spec_l06Release(r:RelD)(v:Value)(B:Nat)(w:World)(hv:Zq w B v r)(sm:r.small):
  Cl 43 #[v] w fun q w'=>∃a b c ca cb cc,q=.returned (.agg #[.slice a r.rules.length ca,.slice b r.zones.length cb,.slice c r.links.length cc])/\RelFrom w.heap.size w' (.agg #[.slice a r.rules.length ca,.slice b r.zones.length cb,.slice c r.links.length cc]) r/\Bw w w':=by
 obtain⟨a,b,c,rfl,_,⟨hA,_⟩,⟨hZ,_⟩,⟨hC,_⟩⟩:=hv.form
 obtain⟨m1,m2,m3,m4⟩:=sm
 have Km:Hid (RowF w a 9 r.rules.length (r.rules.map RuleD.cs).flatten):=⟨by rw[jbx (q:=9) (jlb (cs:=RuleD.cs) (fun _=>rfl) _),llm],fun W hb=>(hA.below hb).flat (jlb (cs:=RuleD.cs) (fun _=>rfl) _),js0⟩
 have Kj:Hid (RowF w c 2 r.links.length (r.links.map LinkD.cs).flatten):=⟨by rw[jbx (q:=2) (jlb (cs:=LinkD.cs) (fun _=>rfl) _),llm],fun W hb=>(hC.below hb).flat (jlb (cs:=LinkD.cs) (fun _=>rfl) _),jti⟩
 have HZ:=hidP hZ
 obtain⟨bg,QC,SA⟩:=two_in w [so a r.rules.length r.rules.length,so b r.zones.length r.zones.length,so c r.links.length r.links.length] [nS,nS,nS] 36 36
 clear hA hZ hC hv
 generalize Ft:(r.rules.map RuleD.cs).flatten=rn at *
 generalize Qm:(r.links.map LinkD.cs).flatten=ln at *
 generalize Qo:r.rules.length=nr at *
 generalize fH:r.links.length=nl at *
 generalize Cq:r.zones.length=nz at *
 have WP:=hidP (And.intro Ft (And.intro Qm (And.intro Qo (And.intro fH Cq))))
 clear Ft Qm Qo fH Cq
 unfold Cl;go_in
 go_wp2_with fail
 generalize (w.alloc (.cells #[so a nr nr,so b nz nz,so c nl nl] 36)).alloc (.cells #[nS,nS,nS] 36)=wA at *
 go_cut [3]from 5 to 13 (fun s3 wx=>∃g3 p8 c8 am cm,s3=.pointer (some (ad g3 0))/\Hid (R1P w wx a b c nr nz nl rn ln g3 p8 c8 am cm))
 case first=>
  refine wp_region_noPanic ?_
  refine wp_region_held_drew (S:=fun w'=>w'.cell? (ad w.heap.size 0)=some (so a nr nr)/\w'.cell? (ad w.heap.size 2)=some (so c nl nl)) (by kernel_rfl) ⟨(varC_of (w:=wA.drew) QC).c 0 rfl,(varC_of (w:=wA.drew) QC).c 2 rfl⟩ (fun cZ=>?_)
  have h:R0P w wA.drew a b c nr nz nl rn ln none none none none none:=⟨QC,SA,bg.trans ((jab wA).mono bg.size),fun g e=>(by cases e),fun g e=>(by cases e),fun g e=>(by cases e),fun p c e=>(by cases e),fun p c e=>(by cases e)⟩
  clear bg QC SA
  generalize wA.drew=wB at *
  refine wpAnyH_take (i:=1) (v:=?v1) rfl (by kernel_rfl) (by kernel_rfl) (by kernel_rfl) (fun _ _ _ h=>h) (Or.inl ⟨by kernel_rfl,?y1⟩) cZ ?z1
  case y1=>(intro wq dA;(try dsimp only at dA);go_simp;try with_reducible rfl)
  try simp only[Act.put,qq1,qq2,qq3]
  refine wpAnyH_take (i:=2) (v:=?v2) rfl (by kernel_rfl) (by kernel_rfl) (by kernel_rfl) (fun _ _ _ h=>h) (Or.inl ⟨by kernel_rfl,?y2⟩) cZ ?z2
  case y2=>(intro wq dA;(try dsimp only at dA);go_simp;try with_reducible rfl)
  try simp only[Act.put,qq1,qq2,qq3]
  refine wpAnyH_take (i:=5) (v:=?v3) rfl (by kernel_rfl) (by kernel_rfl) (by kernel_rfl) (fun _ _ _ h=>h) (Or.inl ⟨by kernel_rfl,?y3⟩) cZ ?z3
  case y3=>(intro wq dA;(try dsimp only at dA);go_simp;try with_reducible rfl)
  try simp only[Act.put,qq1,qq2,qq3]
  refine wpAnyH_take (i:=6) (v:=?v4) rfl (by kernel_rfl) (by kernel_rfl) (by kernel_rfl) (fun _ _ _ h=>h) (Or.inl ⟨by kernel_rfl,?y4⟩) cZ ?z4
  case y4=>(intro wq dA;(try dsimp only at dA);go_simp;try with_reducible rfl)
  try simp only[Act.put,qq1,qq2,qq3]
  repeat'
   ((first
    |((with_reducible have _:R0P _ _ _ _ _ _ _ _ _ _ none none none none none:=h);refine rdy3 0 4 9 (by kernel_rfl) rfl rfl rfl (fun K hK=>?_) (fun K hK=>?_) (fun K hK=>?_))
    |((with_reducible have _:R0P _ _ _ _ _ _ _ _ _ _ none none (some _) none none:=h);refine rdy2 0 4 (by kernel_rfl) rfl rfl (fun K hK=>?_) (fun K hK=>?_))
    |((with_reducible have _:R0P _ _ _ _ _ _ _ _ _ _ none (some _) (some _) none none:=h);refine rdy1 0 (by kernel_rfl) rfl (fun K hK=>?_))
    |((with_reducible have _:R0P _ _ _ _ _ _ _ _ _ _ (some _) (some _) (some _) none none:=h);refine rdy1 3 (by kernel_rfl) rfl (fun K hK=>?_))
    |((with_reducible have _:R0P _ _ _ _ _ _ _ _ _ _ none (some _) (some _) (some _) none:=h);refine rdy1 7 (by kernel_rfl) rfl (fun K hK=>?_))
    |((with_reducible have _:R0P _ _ _ _ _ _ _ _ _ _ (some _) none (some _) none none:=h);refine rdy2 3 4 (by kernel_rfl) rfl rfl (fun K hK=>?_) (fun K hK=>?_))
    |((with_reducible have _:R0P _ _ _ _ _ _ _ _ _ _ none none (some _) (some _) none:=h);refine rdy1 4 (by kernel_rfl) rfl (fun K hK=>?_))
    |((with_reducible have _:R0P _ _ _ _ _ _ _ _ _ _ none (some _) none none none:=h);refine rdy2 0 9 (by kernel_rfl) rfl rfl (fun K hK=>?_) (fun K hK=>?_))
    |((with_reducible have _:R0P _ _ _ _ _ _ _ _ _ _ (some _) (some _) none none none:=h);refine rdy2 3 9 (by kernel_rfl) rfl rfl (fun K hK=>?_) (fun K hK=>?_))
    |((with_reducible have _:R0P _ _ _ _ _ _ _ _ _ _ none (some _) none (some _) none:=h);refine rdy2 7 9 (by kernel_rfl) rfl rfl (fun K hK=>?_) (fun K hK=>?_))
    |((with_reducible have _:R0P _ _ _ _ _ _ _ _ _ _ none none none (some _) (some _):=h);refine rdy1 9 (by kernel_rfl) rfl (fun K hK=>?_))
    |((with_reducible have _:R0P _ _ _ _ _ _ _ _ _ _ (some _) none none none none:=h);refine rdy3 3 4 9 (by kernel_rfl) rfl rfl rfl (fun K hK=>?_) (fun K hK=>?_) (fun K hK=>?_))
    |((with_reducible have _:R0P _ _ _ _ _ _ _ _ _ _ none none none (some _) none:=h);refine rdy2 4 9 (by kernel_rfl) rfl rfl (fun K hK=>?_) (fun K hK=>?_))
    |fail);all_goals first
     |(refine h.step8 Km.out m1 (by rfl) (by rfl) (by rfl) (by rfl) ?_;clear h;intro p8 c8 wB h;refine hK.out _ _ h.S (fun cZ=>?_);(try simp only[Act.put,qq1,qq2,qq3]);clear hK K)
     |(refine h.step12 Kj.out m3 (by rfl) (by rfl) (by rfl) (by rfl) ?_;clear h;intro am cm wB h;refine hK.out _ _ h.S (fun cZ=>?_);(try simp only[Act.put,qq1,qq2,qq3]);clear hK K;refine wpAnyH_take (i:=8) (v:=?_) rfl (by kernel_rfl) (by kernel_rfl) (by kernel_rfl) (fun _ _ _ h=>h) (Or.inl ⟨by kernel_rfl,?_⟩) cZ ?_;rotate_left;focus (intro wq dA;(try dsimp only at dA);go_simp;try with_reducible rfl);(try simp only[Act.put,qq1,qq2,qq3]))
     | (go_simp;first
       |(refine hK.out _ _ h.al5.S (fun cZ=>?_);(try simp only[Act.put,qq1,qq2,qq3]);clear hK K;replace h:=h.al5;generalize wB.heap.size=g5 at *;generalize wB.alloc (.cells #[] 149)=wB at *)
       |(refine hK.out _ _ h.al9.S (fun cZ=>?_);(try simp only[Act.put,qq1,qq2,qq3]);clear hK K;replace h:=h.al9;generalize wB.heap.size=g9 at *;generalize wB.alloc (.cells #[] 155)=wB at *)
       |(refine hK.out _ _ h.al3.S (fun cZ=>?_);(try simp only[Act.put,qq1,qq2,qq3]);clear hK K;replace h:=h.al3;generalize wB.heap.size=g3 at *;generalize wB.alloc (.cells #[nS,nS,nS] 36)=wB at *)
       |fail)
     |fail)
  all_goals
   refine rdy1 10 (by kernel_rfl) rfl (fun K hK=>?_)
   obtain⟨eS,K7⟩:=h.k3 _ rfl
   have V3:=varC_of (l:=[nS,nS,nS]) eS
   have j0:=V3.c 0 rfl
   have f0:=V3.f 0 rfl
   have j1:=V3.c 1 rfl
   have f1:=V3.f 1 rfl
   have j2:=V3.c 2 rfl
   have f2:=V3.f 2 rfl
   go_simp
   have hF:=r1p_set h.par h.res eS (h.k8 _ _ rfl) (h.k12 _ _ rfl) K7 h.bel
   refine hK.out _ _ ⟨(varC_of hF.par).c 0 rfl,(varC_of hF.par).c 2 rfl⟩ (fun cZ=>?_)
   clear hK K V3 j0 j1 j2 f0 f1 f2
   try simp only[Act.put,List.getElem_toArray,List.getElem_cons_succ,List.getElem_cons_zero,qq1,qq2,qq3]
   refine wpAnyH_done (by kernel_rfl) ?_ _
   refine NoPanic.normal ?_
   go_wp2
   go_meet
   exact⟨g3,_,_,_,_,rfl,hF⟩
 case rest=>
  obtain⟨g3,p8,c8,am,cm,rfl,H1⟩:=hcut
  obtain⟨w1,f9⟩:=qea wc
  subst f9
  have HS:=hidP (H1.out.start r.zones)
  have QP:Hid (r.zones.length=nz):=WP.out.2.2.2.2
  obtain⟨YW,zi,YX,YZ,Z0⟩:=jr1
  clear bg QC SA H1 Km Kj
  go_wp2
  go_loopw [4] (fun s4 wr=>∃i:Nat,i<=nz/\s4=iv i/\Hid (R5P w wr a b c nr nz nl rn ln r.zones g3 p8 c8 am cm i)) (fun s4 _=>nz-(intOf s4).toNat)
  case atStart=>exact⟨0,by omega,rfl,HS⟩
  case round=>
   clear HS
   obtain⟨wa,dS⟩:=qea wr
   subst dS
   obtain⟨i,hi,rfl,H5⟩:=hrel
   have x1:=(varC_of H5.out.par).c 1 rfl
   by_cases hlt:i<nz
   ·have a1:(i:Int)<(nz:Int):=by omega
    have a0:(0:Int)<=(i:Int):=by omega
    obtain⟨z,hz⟩:∃z,r.zones[i]? =some z:=⟨_,lgg (by have:=QP.out;omega)⟩
    obtain⟨Qs,qe,_,Qt,F4,_⟩:=HZ.out i z hlt hz
    have Dz:=m4 z (lmg hz)
    have SP:=hidP (H5.out.below (jab wa))
    have iE:=SP.out.bel
    have em:=SP.out.par
    obtain⟨pz,cz,zr,QV,sP,CP,aH,YP,YN⟩:=SP.out.ex
    have Rh:=SP.out.ge
    have qC:=le_two SP.out.res
    have TS:Hid (∀W',Below wa.drew.heap.size wa.drew W'->∀(j:Nat) (z:ZoneD),j<i->r.zones[j]? =some z->∃e c,zr[j]? =some [.string z.name,.slice e z.eras.length c]/\W'.ownsRow (w.heap.size+1+1) 187 6 (.slice e z.eras.length c) z.eras.length (z.eras.map EraD.cs).flatten):=fun W' hb j z hj hz=>by
     obtain⟨e,c,k1,k2⟩:=YN j z hj hz
     exact⟨e,c,k1,jac k2 hb⟩
    have vW:Hid (RowF w qe 6 z.eras.length (z.eras.map EraD.cs).flatten):=⟨by rw[jbx (q:=6) (jlb (cs:=EraD.cs) (fun _=>rfl) _),llm],fun W hb=>(F4.below hb).flat (jlb (cs:=EraD.cs) (fun _=>rfl) _),jxg⟩
    have HA:Hid (∀W,Below wa.drew.heap.size wa.drew W->W.cell? (ad w.heap.size 1)=some (so b nz nz)/\W.cell? (ad b (i*2))=some (.string z.name)/\W.cell? (ad b (i*2+1))=some (so qe z.eras.length z.eras.length)):=fun W k=>⟨(varC_of ((k.block _ (heap_lt em)).trans em)).c 1 rfl,jaa (qtr iE k) Qs,jaa (qtr iE k) Qt⟩
    have HV:Hid (∀W,Below wa.drew.heap.size wa.drew W->W.cell? (ad g3 1)=some (.slice pz i cz)):=fun W k=>(varC_of (l:=[.slice p8 nr c8,.slice pz i cz,.slice am nl cm]) ((k.block _ (heap_lt QV)).trans QV)).c 1 rfl
    clear YN F4 H5
    go_wp2_with fail
    refine wp_region_noPanic ?_
    refine wp_region_held_drew (S:=fun w'=>w'.cell? (ad w.heap.size 1)=some (so b nz nz)/\w'.cell? (ad b (i*2))=some (.string z.name)/\w'.cell? (ad b (i*2+1))=some (so qe z.eras.length z.eras.length)) (by kernel_rfl) (HA.out _ (brf _ _)) (fun cZ=>?_)
    clear x1
    generalize wa.drew=wW at *
    generalize hwV:wW=wV at cZ ⊢
    have h:Bw wW wV/\True:=⟨by rw[<- hwV];exact brf _ _,trivial⟩
    clear hwV
    refine wpAnyH_take (i:=0) (v:=?v5) rfl (by kernel_rfl) (by kernel_rfl) (by kernel_rfl) (fun _ _ _ h=>h) (Or.inl ⟨by kernel_rfl,?y5⟩) cZ ?z5
    case y5=>(intro wq dA;(try dsimp only at dA);go_simp;try with_reducible rfl)
    try simp only[Act.put,qq1,qq2,qq3]
    refine wpAnyH_take (i:=2) (v:=?v6) rfl (by kernel_rfl) (by kernel_rfl) (by kernel_rfl) (fun _ _ _ h=>h) (Or.inl ⟨by kernel_rfl,?y6⟩) cZ ?z6
    case y6=>(intro wq dA;(try dsimp only at dA);go_simp;try with_reducible rfl)
    try simp only[Act.put,qq1,qq2,qq3]
    refine wpAnyH_take (i:=3) (v:=?v7) rfl (by kernel_rfl) (by kernel_rfl) (by kernel_rfl) (fun _ _ _ h=>h) (Or.inl ⟨by kernel_rfl,?y7⟩) cZ ?z7
    case y7=>(intro wq dA;(try dsimp only at dA);go_simp;try with_reducible rfl)
    try simp only[Act.put,qq1,qq2,qq3]
    refine wpAnyH_take (i:=4) (v:=?v8) rfl (by kernel_rfl) (by kernel_rfl) (by kernel_rfl) (fun _ _ _ h=>h) (Or.inl ⟨by kernel_rfl,?y8⟩) cZ ?z8
    case y8=>(intro wq dA;(try dsimp only at dA);go_simp;try with_reducible rfl)
    try simp only[Act.put,qq1,qq2,qq3]
    refine wpAnyH_take (i:=5) (v:=?v9) rfl (by kernel_rfl) (by kernel_rfl) (by kernel_rfl) (fun _ _ _ h=>h) (Or.inl ⟨by kernel_rfl,?y9⟩) cZ ?z9
    case y9=>(intro wq dA;(try dsimp only at dA);go_simp;try with_reducible rfl)
    try simp only[Act.put,qq1,qq2,qq3]
    refine wpAnyH_take (i:=6) (v:=?v10) rfl (by kernel_rfl) (by kernel_rfl) (by kernel_rfl) (fun _ _ _ h=>h) (Or.inl ⟨by kernel_rfl,?y10⟩) cZ ?z10
    case y10=>(intro wq dA;(try dsimp only at dA);go_simp;try with_reducible rfl)
    try simp only[Act.put,qq1,qq2,qq3]
    refine wpAnyH_take (i:=7) (v:=?v11) rfl (by kernel_rfl) (by kernel_rfl) (by kernel_rfl) (fun _ _ _ h=>h) (Or.inl ⟨by kernel_rfl,?y11⟩) cZ ?z11
    case y11=>(intro wq dA;(try dsimp only at dA);go_simp;try with_reducible rfl)
    try simp only[Act.put,qq1,qq2,qq3]
    refine wpAnyH_take (i:=9) (v:=?v12) rfl (by kernel_rfl) (by kernel_rfl) (by kernel_rfl) (fun _ _ _ h=>h) (Or.inl ⟨by kernel_rfl,?y12⟩) cZ ?z12
    case y12=>(intro wq dA;(try dsimp only at dA);go_simp;try with_reducible rfl)
    try simp only[Act.put,qq1,qq2,qq3]
    refine wpAnyH_take (i:=10) (v:=?v13) rfl (by kernel_rfl) (by kernel_rfl) (by kernel_rfl) (fun _ _ _ h=>h) (Or.inl ⟨by kernel_rfl,?y13⟩) cZ ?z13
    case y13=>(intro wq dA;(try dsimp only at dA);go_simp;try with_reducible rfl)
    try simp only[Act.put,qq1,qq2,qq3]
    refine wpAnyH_take (i:=11) (v:=?v14) rfl (by kernel_rfl) (by kernel_rfl) (by kernel_rfl) (fun _ _ _ h=>h) (Or.inl ⟨by kernel_rfl,?y14⟩) cZ ?z14
    case y14=>(intro wq dA;(try dsimp only at dA);go_simp;try with_reducible rfl)
    try simp only[Act.put,qq1,qq2,qq3]
    refine wpAnyH_take (i:=12) (v:=?v15) rfl (by kernel_rfl) (by kernel_rfl) (by kernel_rfl) (fun _ _ _ h=>h) (Or.inl ⟨by kernel_rfl,?y15⟩) cZ ?z15
    case y15=>(intro wq dA;(try dsimp only at dA);go_simp;try with_reducible rfl)
    try simp only[Act.put,qq1,qq2,qq3]
    refine wpAnyH_take (i:=13) (v:=?v16) rfl (by kernel_rfl) (by kernel_rfl) (by kernel_rfl) (fun _ _ _ h=>h) (Or.inl ⟨by kernel_rfl,?y16⟩) cZ ?z16
    case y16=>(intro wq dA;(try dsimp only at dA);go_simp;try with_reducible rfl)
    try simp only[Act.put,qq1,qq2,qq3]
    refine wpAnyH_take (i:=14) (v:=?v17) rfl (by kernel_rfl) (by kernel_rfl) (by kernel_rfl) (fun _ _ _ h=>h) (Or.inl ⟨by kernel_rfl,?y17⟩) cZ ?z17
    case y17=>(intro wq dA;(try dsimp only at dA);go_simp;try with_reducible rfl)
    try simp only[Act.put,qq1,qq2,qq3]
    refine rdy2 1 8 (by kernel_rfl) rfl rfl (fun K hK=>?q1_0) (fun K hK=>?q1_1)
    case' q1_0=>
     have vd:=HV.out _ h.1
     go_simp
     refine hK.out _ _ (HA.out _ h.1) (fun cZ=>?_)
     try simp only[Act.put,qq1,qq2,qq3]
     clear hK K vd
     refine rdy1 8 (by kernel_rfl) rfl (fun K hK=>?_)
     go_simp
     obtain⟨R8,h,hq⟩:∃g,E1 wW (wV.alloc (.cells #[] 187)) g/\wV.heap.size=g:=⟨_,E1.new h.1,rfl⟩
     refine hK.out _ _ (HA.out _ h.1) (fun cZ=>?_)
     try simp only[Act.put,qq1,qq2,qq3]
     clear hK K
     rw[hq]
     clear hq
     generalize wV.alloc (.cells #[] 187)=wV at *
     refine rdy1 15 (by kernel_rfl) rfl (fun K hK=>?_)
     refine h.step iE qC vW.out Dz (by rfl) (by rfl) (by rfl) (by rfl) ?_
     clear h
     intro jc gN wV h
     refine hK.out _ _ (HA.out _ h.1) (fun cZ=>?_)
     try simp only[Act.put,qq1,qq2,qq3]
     clear hK K
     refine wpAnyH_take (i:=16) (v:=?v18) rfl (by kernel_rfl) (by kernel_rfl) (by kernel_rfl) (fun _ _ _ h=>h) (Or.inl ⟨by kernel_rfl,?y18⟩) cZ ?z18
     case y18=>(intro wq dA;(try dsimp only at dA);go_simp;try with_reducible rfl)
     try simp only[Act.put,qq1,qq2,qq3]
     refine rdy1 17 (by kernel_rfl) rfl (fun K hK=>?_)
     go_simp
     obtain⟨um,h,hq⟩:∃g,E3 w wW (wV.alloc (.cells #[.string z.name,.slice jc z.eras.length gN] 153)) z jc gN g/\wV.heap.size=g:=⟨_,h.new,rfl⟩
     refine hK.out _ _ (HA.out _ h.1) (fun cZ=>?_)
     try simp only[Act.put,qq1,qq2,qq3]
     clear hK K
     rw[hq]
     clear hq
     generalize wV.alloc (.cells #[.string z.name,.slice jc z.eras.length gN] 153)=wV at *
    case' q1_1=>
     go_simp
     obtain⟨R8,h,hq⟩:∃g,E1 wW (wV.alloc (.cells #[] 187)) g/\wV.heap.size=g:=⟨_,E1.new h.1,rfl⟩
     refine hK.out _ _ (HA.out _ h.1) (fun cZ=>?_)
     try simp only[Act.put,qq1,qq2,qq3]
     clear hK K
     rw[hq]
     clear hq
     generalize wV.alloc (.cells #[] 187)=wV at *
     refine rdy2 1 15 (by kernel_rfl) rfl rfl (fun K hK=>?q5_0) (fun K hK=>?q5_1)
     case' q5_0=>
      have vd:=HV.out _ h.1
      go_simp
      refine hK.out _ _ (HA.out _ h.1) (fun cZ=>?_)
      try simp only[Act.put,qq1,qq2,qq3]
      clear hK K vd
      refine rdy1 15 (by kernel_rfl) rfl (fun K hK=>?_)
      refine h.step iE qC vW.out Dz (by rfl) (by rfl) (by rfl) (by rfl) ?_
      clear h
      intro jc gN wV h
      refine hK.out _ _ (HA.out _ h.1) (fun cZ=>?_)
      try simp only[Act.put,qq1,qq2,qq3]
      clear hK K
      refine wpAnyH_take (i:=16) (v:=?v19) rfl (by kernel_rfl) (by kernel_rfl) (by kernel_rfl) (fun _ _ _ h=>h) (Or.inl ⟨by kernel_rfl,?y19⟩) cZ ?z19
      case y19=>(intro wq dA;(try dsimp only at dA);go_simp;try with_reducible rfl)
      try simp only[Act.put,qq1,qq2,qq3]
      refine rdy1 17 (by kernel_rfl) rfl (fun K hK=>?_)
      go_simp
      obtain⟨um,h,hq⟩:∃g,E3 w wW (wV.alloc (.cells #[.string z.name,.slice jc z.eras.length gN] 153)) z jc gN g/\wV.heap.size=g:=⟨_,h.new,rfl⟩
      refine hK.out _ _ (HA.out _ h.1) (fun cZ=>?_)
      try simp only[Act.put,qq1,qq2,qq3]
      clear hK K
      rw[hq]
      clear hq
      generalize wV.alloc (.cells #[.string z.name,.slice jc z.eras.length gN] 153)=wV at *
     case' q5_1=>
      refine h.step iE qC vW.out Dz (by rfl) (by rfl) (by rfl) (by rfl) ?_
      clear h
      intro jc gN wV h
      refine hK.out _ _ (HA.out _ h.1) (fun cZ=>?_)
      try simp only[Act.put,qq1,qq2,qq3]
      clear hK K
      refine wpAnyH_take (i:=16) (v:=?v20) rfl (by kernel_rfl) (by kernel_rfl) (by kernel_rfl) (fun _ _ _ h=>h) (Or.inl ⟨by kernel_rfl,?y20⟩) cZ ?z20
      case y20=>(intro wq dA;(try dsimp only at dA);go_simp;try with_reducible rfl)
      try simp only[Act.put,qq1,qq2,qq3]
      refine rdy2 1 17 (by kernel_rfl) rfl rfl (fun K hK=>?q8_0) (fun K hK=>?q8_1)
      case' q8_0=>
       have vd:=HV.out _ h.1
       go_simp
       refine hK.out _ _ (HA.out _ h.1) (fun cZ=>?_)
       try simp only[Act.put,qq1,qq2,qq3]
       clear hK K vd
       refine rdy1 17 (by kernel_rfl) rfl (fun K hK=>?_)
       go_simp
       obtain⟨um,h,hq⟩:∃g,E3 w wW (wV.alloc (.cells #[.string z.name,.slice jc z.eras.length gN] 153)) z jc gN g/\wV.heap.size=g:=⟨_,h.new,rfl⟩
       refine hK.out _ _ (HA.out _ h.1) (fun cZ=>?_)
       try simp only[Act.put,qq1,qq2,qq3]
       clear hK K
       rw[hq]
       clear hq
       generalize wV.alloc (.cells #[.string z.name,.slice jc z.eras.length gN] 153)=wV at *
      case' q8_1=>
       go_simp
       obtain⟨um,h,hq⟩:∃g,E3 w wW (wV.alloc (.cells #[.string z.name,.slice jc z.eras.length gN] 153)) z jc gN g/\wV.heap.size=g:=⟨_,h.new,rfl⟩
       refine hK.out _ _ (HA.out _ h.1) (fun cZ=>?_)
       try simp only[Act.put,qq1,qq2,qq3]
       clear hK K
       rw[hq]
       clear hq
       generalize wV.alloc (.cells #[.string z.name,.slice jc z.eras.length gN] 153)=wV at *
       refine rdy1 1 (by kernel_rfl) rfl (fun K hK=>?_)
       have vd:=HV.out _ h.1
       go_simp
       refine hK.out _ _ (HA.out _ h.1) (fun cZ=>?_)
       try simp only[Act.put,qq1,qq2,qq3]
       clear hK K vd
    all_goals
     refine rdy1 18 (by kernel_rfl) rfl (fun K hK=>?_)
     obtain⟨bW,DM,D3⟩:=h
     have Jq:=jac YP bW
     refine step_append_own (w:=wV) (by rfl) (.tmp 22) (.tmp 38) 33 (by rfl) (w.heap.size+1+1) 153 YW (.agg #[.string ⟨#[]⟩,nS]) 2 40 Tryz.underlying33 zi YX YZ Z0 rfl (by omega) (.slice pz i cz) i zr.flatten (by rfl) Jq (ad um 0) 1 1 [.string z.name,.slice jc z.eras.length gN] (by rfl) rfl (cells_of D3) (by intro u hu;simp at hu;rcases hu with rfl|rfl<;>rfl) (by unfold maxLen;omega) (by omega) (by have:=bW.size;omega) ?_
     intro vn wn hn i6
     obtain⟨pn,cn,rfl⟩:=own_shape2 hn
     have Ra:=(bW.block _ (heap_lt QV)).trans QV
     have V3:=varC_of (l:=[.slice p8 nr c8,.slice pz i cz,.slice am nl cm]) (kh_zone Jq i6 Ra (by decide))
     have j1:=V3.c 1 rfl
     have f1:=V3.f 1 rfl
     have HR:=hidP ((SP.out.below bW).step Ra sP CP aH Jq (TS.out _ bW) hz DM hn i6)
     have R9:Bw w wn:=(qtr iE bW).grown i6 (qtr iE bW).size (fun k hk=>by have:=(World.ownsRow.lt Jq k hk).1;omega)
     have Gh:=kh_zone Jq i6 ((bW.block _ (heap_lt em)).trans em) (by decide)
     refine hK.out _ _ ⟨(varC_of Gh).c 1 rfl,jaa R9 Qs,jaa R9 Qt⟩ (fun cZ=>?_)
     try simp only[Act.put,qq1,qq2,qq3]
     clear hK K hn i6 Jq Ra V3 Gh R9
     refine wpAnyH_take (i:=19) (v:=?_) rfl (by kernel_rfl) (by kernel_rfl) (by kernel_rfl) (fun _ _ _ h=>h) (Or.inl ⟨by kernel_rfl,?_⟩) cZ ?_
     rotate_left
     focus (intro wq dA;(try dsimp only at dA);go_simp;try with_reducible rfl)
     try simp only[Act.put,qq1,qq2,qq3]
     refine rdy1 20 (by kernel_rfl) rfl (fun K hK=>?_)
     go_simp
     refine hK.out _ _ ⟨(varC_of HR.out.par).c 1 rfl,jaa HR.out.bel Qs,jaa HR.out.bel Qt⟩ (fun cZ=>?_)
     clear hK K j1 f1
     try simp only[Act.put,List.getElem_toArray,List.getElem_cons_succ,List.getElem_cons_zero,qq1,qq2,qq3]
     refine wpAnyH_done (by kernel_rfl) ?_ _
     refine NoPanic.normal ?_
     clear cZ
     go_wp2
     go_roundw
     case rel=>exact⟨i+1,by omega,by go_num,HR⟩
     case measure=>simp[intOf];omega
   ·obtain rfl:i=nz:=by omega
    obtain⟨pz,cz,eS,hD⟩:=H5.out.done WP.out
    have V3:=varC_of (l:=[.slice p8 nr c8,.slice pz i cz,.slice am nl cm]) eS
    have VR:=varC_of (l:=[nS,nS,nS]) H5.out.res
    have j0:=V3.c 0 rfl
    have j1:=V3.c 1 rfl
    have j2:=V3.c 2 rfl
    have o0:=VR.c 0 rfl
    have o1:=VR.c 1 rfl
    have o2:=VR.c 2 rfl
    have f0:=VR.f 0 rfl
    have f1:=VR.f 1 rfl
    have f2:=VR.f 2 rfl
    obtain⟨t0,t1,t2⟩:=jne (v0:=.slice p8 nr c8) (v1:=.slice pz i cz) (v2:=.slice am nl cm) o0 o1 o2
    have HD:=hidP (hD (.slice p8 nr c8) (.slice pz i cz) (.slice am nl cm))
    clear hD eS V3 VR H5
    go_wp2
    exact bpr (v:=.agg #[.slice p8 nr c8,.slice pz i cz,.slice am nl cm]) (by simp[results,Tryz.results43,go_sem,t0,t1,t2]) rfl ⟨p8,pz,am,c8,cz,cm,rfl,HD.out⟩
