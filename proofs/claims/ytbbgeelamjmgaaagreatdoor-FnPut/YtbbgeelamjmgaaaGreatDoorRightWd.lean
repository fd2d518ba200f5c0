import Derived.Test.YtbbgeelamjmgaaaGreatDoorRightQd
import Derived.Lib.OwnBridge
set_option maxRecDepth 100000
set_option maxHeartbeats 0
set_option linter.unusedSimpArgs false
open Go.RowKit Go.Sort
namespace Go.Proofs.YtbbgeelamjmgaaaGreatDoor
variable{rs:List ZQ}{s t x:ByteArray}{es:List ZH}{e:TypeId}{base k n size:Nat}{z:pE}{zs:List pE}{w:World}{v:Value}{xs:List Value}{ss:List ByteArray}{r:ZW}
theorem jw0(hr:rs.all BF=true)(h:hasB rs s=true):BH s=true:=by
 unfold hasB at h;have⟨x,hx,he⟩:=List.any_eq_true.mp h;have h1:=List.all_eq_true.mp hr x hx;unfold BF at h1;simp only[vB]at h1;have e:x.name=s:=toList_inj (beq_iff_eq.mp he);rw[<- e];exact h1.1
theorem jsd(hr:rs.all BF=true)(e:ZH):(vaZ e=true/\jb0 rs e=true)↔vbz rs e=true:=by
 unfold vaZ jb0 vbz erB ZX;cases he:e.Vv.toList.isEmpty
 .cases hh:hasB rs e.Vv
  .simp
  .have hn:=jw0 hr hh
   rw[hn];simp only[vB,decide_eq_true_eq,Bool.or_eq_true,Bool.false_eq_true,if_false,false_or,true_and,and_true];constructor
   .rintro⟨a,b,c,d,f,g,h⟩
    exact⟨c,⟨a,b⟩,Q,d,⟨f,g⟩,h⟩
   .rintro⟨c,⟨a,b⟩,_,d,⟨f,g⟩,h⟩
    exact⟨a,b,c,d,f,g,h⟩
 .simp only[vB,decide_eq_true_eq,Bool.or_eq_true,if_true,true_or,true_and,and_true]
  constructor
  .rintro⟨a,b,c,d,f,g,h⟩
   exact⟨⟨a,b⟩,c,d,⟨f,g⟩,h⟩
  .rintro⟨⟨a,b⟩,c,d,⟨f,g⟩,h⟩
   exact⟨a,b,c,d,f,g,h⟩
structure vbO(rs:List ZQ)(es:List ZH)(k:Nat)(e:ZH):Prop where
 era:vbz rs e=true
 up:∀j p,k=j+1->es[j]? =some p->p.ZO<e.ZO
 last:e.ZO=253402300799↔k+1=es.length
 of:k+1=es.length->e.of.toList=[119]
structure vcx(rs:List ZQ)(z:pE):Prop where
 name:BH z.name=true
 len:1<=z.ZC.length/\z.ZC.length<=8
 steps:∀k e,z.ZC[k]? =some e->vbO rs z.ZC k e
theorem j2z(h:upB es=true){i:Nat}{x y:ZH}(hx:es[i]? =some x)(hy:es[i+1]? =some y):x.ZO<y.ZO:=by
 by_cases hn:x.ZO<y.ZO
 .exact hn
 .rw[j20 hx hy hn]at h;cases h
theorem jt3{e:ZH}(h:vbz rs e=true):e.ZO<=253402300799:=by
 unfold vbz ZX at h;simp only[vB,decide_eq_true_eq]at h;exact h.2.2.2.2.1.2
theorem jhu(hr:rs.all BF=true)(z:pE):(MY z=true/\z.ZC.all (jb0 rs)=true)↔vcx rs z:=by
 obtain⟨nm,es⟩:=z;unfold MY;simp only[vB,decide_eq_true_eq];constructor
 .rintro⟨⟨h1,h2,h3,h4,h5⟩,h6⟩
  have hE:∀k e,es[k]? =some e->vbz rs e=true:=λk e hk=>(jsd hr e).mp ⟨List.all_eq_true.mp h3 e (ui hk),List.all_eq_true.mp h6 e (ui hk)⟩
  have hla:∀k e,es[k]? =some e->k+1=es.length->e.ZO=253402300799/\e.of.toList=[119]:=by
   intro k e hk hl;unfold vco at h5;rw[show es.length-1=k by omega,hk]at h5;simp only[vB,beq_iff_eq]at h5;exact h5
  refine⟨h1,h2,λk e hk=>⟨hE k e hk,?_,⟨λhu=>?_,λhl=>(hla k e hk hl).1⟩,λhl=>(hla k e hk hl).2⟩⟩
  .rintro j p rfl hp
   exact j2z h4 hp hk
  .have eY:k<es.length:=(pO hk).1
   by_cases hl:k+1=es.length
   .exact hl
   .obtain⟨y,hy⟩:∃y,es[k+1]? =some y:=⟨_,ZV Q⟩
    have:=j2z h4 hk hy;have:=jt3 (hE _ y hy);omega
 .rintro⟨h1,h2,hs⟩
  simp only at h1 h2 hs;have hE:∀e∈es,vaZ e=true/\jb0 rs e=true:=λe he=>by
   have⟨k,hk⟩:=lgo he;exact(jsd hr e).mpr (hs k e hk).era
  refine⟨⟨h1,h2,List.all_eq_true.mpr λe he=>(hE e he).1,j0u λi x y hx hy=>(hs _ y hy).up i x rfl hx,?_⟩,List.all_eq_true.mpr λe he=>(hE e he).2⟩;obtain⟨y,hy⟩:∃y,es[es.length-1]? =some y:=⟨_,ZV Q⟩;have hS:=hs _ y hy;unfold vco;rw[hy];simp only[vB,beq_iff_eq];exact⟨hS.last.mpr Q,hS.of Q⟩
def jvb(rs:List ZQ)(es:List ZH)(k:Nat)(e:ZH):Bool:=
 vbz rs e&&((k==0) || (match es[k-1]? with|some p=>decide (p.ZO<e.ZO)|none=>true))&&(decide (e.ZO=253402300799)==decide (k+1=es.length))&&(!decide (k+1=es.length) || e.of.toList==[119])
theorem vgn{e:ZH}:jvb rs es k e=true↔vbO rs es k e:=by
 unfold jvb;simp only[vB,Bool.or_eq_true,beq_iff_eq,Bool.not_eq_true',decide_eq_false_iff_not,decide_eq_decide];constructor
 .rintro⟨⟨⟨h1,h2⟩,h3⟩,h4⟩
  refine⟨h1,?_,h3,?_⟩
  .rintro j p rfl hp
   rcases h2 with h2|h2
   .omega
   .rw[show j+1-1=j by omega,hp]at h2
    exact Nb h2
  .intro hk
   rcases h4 with h4|h4
   .exact absurd hk h4
   .exact h4
 .rintro⟨h1,h2,h3,h4⟩
  refine⟨⟨⟨h1,?_⟩,h3⟩,?_⟩
  .by_cases hk:k=0
   .exact .inl hk
   .refine .inr ?_
    cases hp:es[k-1]? with
    |none=>rfl
    |some p=>exact rT (h2 (k-1) p Q hp)
  .by_cases hk:k+1=es.length
   .exact .inr (h4 hk)
   .exact .inl hk
def jb7(rs:List ZQ)(z:pE):Bool:=
 BH z.name&&decide (1<=z.ZC.length/\z.ZC.length<=8)&&(List.range z.ZC.length).all λk=>match z.ZC[k]? with|some e=>jvb rs z.ZC k e|none=>true
theorem veG:jb7 rs z=true↔vcx rs z:=by
 unfold jb7;simp only[vB,decide_eq_true_eq,List.all_eq_true,List.mem_range];constructor
 .rintro⟨⟨h1,h2⟩,h3⟩
  refine⟨h1,h2,λk e hk=>?_⟩;have:=h3 k (pO hk).1;rw[hk]at this;exact vgn.mp this
 .rintro⟨h1,h2,h3⟩
  refine⟨⟨h1,h2⟩,λk hk=>?_⟩;cases he:z.ZC[k]? with
  |none=>rfl
  |some e=>exact vgn.mpr (h3 k e he)
theorem jhn(h:¬vcx rs z):jb7 rs z=false:=by
 cases hb:jb7 rs z
 .rfl
 .exact absurd (veG.mp hb) h
theorem jmv(h:vcx rs z):jb7 rs z=true:=veG.mpr h
theorem j3r(hz:∀z∈zs,BH z.name=true)(h:vaE zs s=true):BH s=true:=by
 unfold vaE at h;have⟨x,hx,he⟩:=List.any_eq_true.mp h;rw[<- toList_inj (beq_iff_eq.mp he)];exact hz x hx
theorem jth{ls:List vH}(hz:∀z∈zs,BH z.name=true):(ls.all jes=true/\(ls.all λx=>vaE zs x.vR)=true)↔∀x∈ls,BH x.name=true/\vaE zs x.vR=true:=by
 simp only[List.all_eq_true];unfold jes;simp only[vB];constructor
 .rintro⟨h1,h2⟩ x hx
  exact⟨(h1 x hx).2,h2 x hx⟩
 .intro h
  exact⟨λx hx=>⟨j3r hz (h x hx).2,(h x hx).1⟩,λx hx=>(h x hx).2⟩
theorem jkj(hr:rs.all BF=true):(zs.all MY=true/\(zs.all λz=>z.ZC.all (jb0 rs))=true)↔∀z∈zs,vcx rs z:=by
 simp only[List.all_eq_true (l:=zs)];exact⟨λh z hz=>(jhu hr z).mp ⟨h.1 z hz,h.2 z hz⟩,λh=>⟨λz hz=>((jhu hr z).mpr (h z hz)).1,λz hz=>((jhu hr z).mpr (h z hz)).2⟩⟩
theorem jm8(r:ZW)(v:Value)(z:pE)(u:Value)(w:World)(hv:Zd w v r)(hu:Jf w u z.ZC)(ok:z.ok)(hl:r.Vv.length<=1048576):
  C 70 #[v,.agg #[I z.name,u]] w λe w'=>e=V (.bool (jb7 r.Vv z))/\Bw w w':=by
 obtain⟨a,cap,rfl,hA⟩:=hu;have⟨m1,m2,m3⟩:=ok;unfold maxLen at m2;have h1:=λw=>jbu z.name w m1
 have⟨ra,rb,rc,ca,cb,cc,jH,_,_,_⟩:=hv.form;have ag:=λo o2=>(ZA w o).alloc M o2
 generalize r.YU.length=zn at *;generalize r.YW.length=kn at *;generalize GY:r.Vv.length=rn at *;subst jH;cases hn:BH z.name
 .rw[jhn λh=>by have:=h.name;rw[hn]at this;cases this]
  rw[hn]at h1;clear hn;unfold C;go_in;go_wp2_with fail;refine(h1 _).mono ?_;rintro e w' ⟨rfl,rfl⟩;go_wp2;go_ret;exact⟨rfl,ag _ _⟩
 rw[hn]at h1;by_cases rv:z.ZC.length<1
 .rw[jhn λh=>by have:=h.len;omega]
  unfold C;go_in;go_wp2_with fail;refine(h1 _).mono ?_;rintro e w' ⟨rfl,rfl⟩;go_wp2;go_ret;exact⟨rfl,ag _ _⟩
 by_cases G3:8<z.ZC.length
 .rw[jhn λh=>by have:=h.len;omega]
  unfold C;go_in;go_wp2_with fail;refine(h1 _).mono ?_;rintro e w' ⟨rfl,rfl⟩;go_wp2;go_ret;exact⟨rfl,ag _ _⟩
 have HZ:Hid ((∀k e,z.ZC[k]? =some e->vbO r.Vv z.ZC k e)->jb7 r.Vv z=true):=λh=>jmv ⟨hn,Q,h⟩
 have HN:Hid (∀k e,z.ZC[k]? =some e->¬vbO r.Vv z.ZC k e->jb7 r.Vv z=false):=λk e hk h=>jhn λhz=>h (hz.steps k e hk)
 clear hn;generalize jb7 r.Vv z=zb at *;obtain⟨nm,es⟩:=z;simp only at *;unfold C;go_in;go_wp2_with fail;refine(h1 _).mono ?_;rintro e w' ⟨rfl,rfl⟩;clear h1;go_wp2;have bQ:=ag (G #[U ra rn ca,U rb zn cb,U rc kn cc] 27) (G #[I nm,U a es.length cap] 120);clear ag;have eL:=hA.below bQ;have ej:=hv.below bQ;obtain⟨x0,x1,x2,x3⟩:(λz:World=>z.cell? (O w.heap.size 0)=some (U ra rn ca)/\z.cell? (O w.heap.size 1)=some (U rb zn cb)/\z.cell? (O w.heap.size 2)=some (U rc kn cc)/\z.cell? (O (w.heap.size+1) 1)=some (U a es.length cap)) ((w.alloc (G #[U ra rn ca,U rb zn cb,U rc kn cc] 27)).alloc (G #[I nm,U a es.length cap] 120)):=RQ;generalize hW:((w.alloc (G #[U ra rn ca,U rb zn cb,U rc kn cc] 27)).alloc (G #[I nm,U a es.length cap] 120))=W at *;go_loopw [6] (λi wr=>∃k:Nat,k<=es.length/\i=J k/\Hid (∀j,j<k->∀x,es[j]? =some x->vbO r.Vv es j x)/\Bw W wr) (λi _=>es.length-(intOf i).toNat)
 .exact⟨0,Q,rfl,λj hj=>Q,by subst hW;exact ZU _ _⟩
 ·
  obtain⟨k,hk,rfl,ak,hB⟩:=hrel;by_cases hlt:k<es.length
  .obtain ⟨x,hx⟩:=DV hlt
   have vV:=m3 x (ui hx);have fu:Bw W (wr.alloc (G #[J x.Zq,I x.Vv,J x.YX,I x.mr,J x.ZO,I x.of] 154)):=hB.alloc hB.size _;obtain⟨b,o,rfl,hc⟩:=(eL.below hB).at (i:=k) (r:=x.cs) (by rw[Z8,hx];rfl);have c0:wr.cell? (O b (o+k*6))=some (J x.Zq):=hc 0 _ rfl;have c1:=hc 1 _ rfl;have c2:=hc 2 _ rfl;have c3:=hc 3 _ rfl;have c4:=hc 4 _ rfl;have c5:=hc 5 _ rfl;clear hc;have y3:wr.cell? (O (w.heap.size+1) 1)=some (U (some (O b o)) es.length cap):=by rw[(Z4 hB).1 _ _ (ZI x3)];exact x3
   have k0:=cell_regrown ((Z4 fu).1 _ _ (ZI x0) |>.trans x0);have k1:=cell_regrown ((Z4 fu).1 _ _ (ZI x1) |>.trans x1);have k2:=cell_regrown ((Z4 fu).1 _ _ (ZI x2) |>.trans x2);have k3:=cell_regrown ((Z4 fu).1 _ _ (ZI x3) |>.trans x3);have e0:=cell_regrown (w:=wr.alloc (G #[J x.Zq,I x.Vv,J x.YX,I x.mr,J x.ZO,I x.of] 154)) (show _=some (J x.Zq)from by first|(simp;done)|simp[go_sem]:(wr.alloc (G #[J x.Zq,I x.Vv,J x.YX,I x.mr,J x.ZO,I x.of] 154)).cell? (O wr.heap.size 0)=_);have e1:=cell_regrown (w:=wr.alloc (G #[J x.Zq,I x.Vv,J x.YX,I x.mr,J x.ZO,I x.of] 154)) (show _=some (I x.Vv)from by first|(simp;done)|simp[go_sem]:(wr.alloc (G #[J x.Zq,I x.Vv,J x.YX,I x.mr,J x.ZO,I x.of] 154)).cell? (O wr.heap.size 1)=_);have e2:=cell_regrown (w:=wr.alloc (G #[J x.Zq,I x.Vv,J x.YX,I x.mr,J x.ZO,I x.of] 154)) (show _=some (J x.YX)from by first|(simp;done)|simp[go_sem]:(wr.alloc (G #[J x.Zq,I x.Vv,J x.YX,I x.mr,J x.ZO,I x.of] 154)).cell? (O wr.heap.size 2)=_);have e3:=cell_regrown (w:=wr.alloc (G #[J x.Zq,I x.Vv,J x.YX,I x.mr,J x.ZO,I x.of] 154)) (show _=some (I x.mr)from by first|(simp;done)|simp[go_sem]:(wr.alloc (G #[J x.Zq,I x.Vv,J x.YX,I x.mr,J x.ZO,I x.of] 154)).cell? (O wr.heap.size 3)=_);have e4:=cell_regrown (w:=wr.alloc (G #[J x.Zq,I x.Vv,J x.YX,I x.mr,J x.ZO,I x.of] 154)) (show _=some (J x.ZO)from by first|(simp;done)|simp[go_sem]:(wr.alloc (G #[J x.Zq,I x.Vv,J x.YX,I x.mr,J x.ZO,I x.of] 154)).cell? (O wr.heap.size 4)=_);have e5:=cell_regrown (w:=wr.alloc (G #[J x.Zq,I x.Vv,J x.YX,I x.mr,J x.ZO,I x.of] 154)) (show _=some (I x.of)from by first|(simp;done)|simp[go_sem]:(wr.alloc (G #[J x.Zq,I x.Vv,J x.YX,I x.mr,J x.ZO,I x.of] 154)).cell? (O wr.heap.size 5)=_);have cE:∀dd os,C _ _ (grow (redrawn (wr.alloc (G #[J x.Zq,I x.Vv,J x.YX,I x.mr,J x.ZO,I x.of] 154)) dd) os) λe cW=>e=V (.bool (vbz r.Vv x))/\∃p:Regrown,cW=grow (redrawn (wr.alloc (G #[J x.Zq,I x.Vv,J x.YX,I x.mr,J x.ZO,I x.of] 154)) p.d) p.os:=λdd os=>Calls.regrown_of (jpr r _ x _ ((ej.below fu).below (below_regrown _ dd os)) vV Q)
   unfold ZH.v at cE;go_wp2_with fail;generalize hV:(wr.alloc (G #[J x.Zq,I x.Vv,J x.YX,I x.mr,J x.ZO,I x.of] 154))=vVV at *;generalize wr.heap.size=g at *;clear c0 c1 c2 c3 c4 c5 y3;have HX:Hid (∀d o,Bw w (grow (redrawn vVV d) o)):=λd o=>bQ.trans ((fu.trans ((below_regrown vVV d o).mono fu.size)).mono bQ.size)
   cases hbe:vbz r.Vv x
   .rw[hbe]at cE
    have HR:Hid (zb=false):=HN.out k x hx λh=>by have:=h.era;rw[hbe]at this;cases this
    clear HZ HN;refine wp_region_quiet_below RG RG ?_
    repeat (first|go_big_quiet_step ((go_at_call 109;exact cE _ _))|quiet_step ((go_at_call 109;exact cE _ _)))
    refine wpQuiet_nil ?_;rintro _ ⟨⟨dq,aQ⟩,rfl⟩;go_wp2;go_ret;exact⟨ZG HR.out.symm,HX.out dq aQ⟩
   .rw[hbe]at cE
    by_cases Cd:k=0
    .have Q8:decide ((0:Int)<(k:Int))=false:=RO
     have oC:decide (0<k)=false:=RO;have fy:=hid Cd;clear Cd;by_cases g1:Hid (x.ZO=253402300799)
     .have Ax:(x.ZO==253402300799)=true:=by simpa using g1.out
      by_cases g2:Hid (k+1=es.length)
      .have ke:((((k:Nat):Int))==((es.length:Int)-1))=true:=by have:=g2.out;simp;omega
       cases g3:(x.of.toList==[119])
       .have g4:Hid (x.of.toList≠[119]):=by simp only[Hid];simpa using g3
        have HR:Hid (zb=false):=HN.out (k) x hx λh=>by exact g4.out (h.of g2.out)
        clear HZ HN ak;refine wp_region_quiet_below RG RG ?_
        repeat (first|go_big_quiet_step ((go_at_call 109;exact cE _ _))|quiet_step ((go_at_call 109;exact cE _ _)))
        refine wpQuiet_nil ?_;rintro _ ⟨⟨dq,aQ⟩,rfl⟩;go_wp2;go_ret;exact⟨ZG HR.out.symm,HX.out dq aQ⟩
       .have g4:Hid (x.of.toList=[119]):=by simp only[Hid];simpa using g3
        have HR:Hid (∀i,i<k+1->∀y,es[i]? =some y->vbO r.Vv es i y):=λi hi y hy=>by
         by_cases e:i=k
         .subst e;rw[hx]at hy;obtain rfl:=Z9 hy;exact⟨hbe,λj p hj _=>by have:=fy.out;omega,⟨λ_=>g2.out,λ_=>g1.out⟩,λ_=>g4.out⟩
         .exact ak.out i Q y hy
        clear HZ HN ak;refine wp_region_quiet_below RG RG ?_
        repeat (first|go_big_quiet_step ((go_at_call 109;exact cE _ _))|quiet_step ((go_at_call 109;exact cE _ _)))
        refine wpQuiet_nil ?_;rintro _ ⟨⟨dq,aQ⟩,rfl⟩;have ac:=below_regrown vVV dq aQ;go_wp2;go_roundw
        .exact⟨k+1,Q,RP,HR,(Zp fu ac)⟩
        .simp[intOf];omega
      .have ke:((((k:Nat):Int))==((es.length:Int)-1))=false:=by have tI:¬(k+1=es.length):=λh=>g2 h;simp;omega
       have HR:Hid (zb=false):=HN.out (k) x hx λh=>by exact g2 (h.last.mp g1.out)
       clear HZ HN ak;refine wp_region_quiet_below RG RG ?_
       repeat (first|go_big_quiet_step ((go_at_call 109;exact cE _ _))|quiet_step ((go_at_call 109;exact cE _ _)))
       refine wpQuiet_nil ?_;rintro _ ⟨⟨dq,aQ⟩,rfl⟩;go_wp2;go_ret;exact⟨ZG HR.out.symm,HX.out dq aQ⟩
     .have Ax:(x.ZO==253402300799)=false:=by simp;exact λh=>g1 h
      by_cases g2:Hid (k+1=es.length)
      .have ke:((((k:Nat):Int))==((es.length:Int)-1))=true:=by have:=g2.out;simp;omega
       have HR:Hid (zb=false):=HN.out (k) x hx λh=>by exact g1 (h.last.mpr g2.out)
       clear HZ HN ak;refine wp_region_quiet_below RG RG ?_
       repeat (first|go_big_quiet_step ((go_at_call 109;exact cE _ _))|quiet_step ((go_at_call 109;exact cE _ _)))
       refine wpQuiet_nil ?_;rintro _ ⟨⟨dq,aQ⟩,rfl⟩;go_wp2;go_ret;exact⟨ZG HR.out.symm,HX.out dq aQ⟩
      .have ke:((((k:Nat):Int))==((es.length:Int)-1))=false:=by have tI:¬(k+1=es.length):=λh=>g2 h;simp;omega
       have HR:Hid (∀i,i<k+1->∀y,es[i]? =some y->vbO r.Vv es i y):=λi hi y hy=>by
        by_cases e:i=k
        .subst e;rw[hx]at hy;obtain rfl:=Z9 hy;exact⟨hbe,λj p hj _=>by have:=fy.out;omega,⟨λh=>absurd h g1,λh=>absurd h g2⟩,λh=>absurd h g2⟩
        .exact ak.out i Q y hy
       clear HZ HN ak;refine wp_region_quiet_below RG RG ?_
       repeat (first|go_big_quiet_step ((go_at_call 109;exact cE _ _))|quiet_step ((go_at_call 109;exact cE _ _)))
       refine wpQuiet_nil ?_;rintro _ ⟨⟨dq,aQ⟩,rfl⟩;have ac:=below_regrown vVV dq aQ;go_wp2;go_roundw
       .exact⟨k+1,Q,RP,HR,(Zp fu ac)⟩
       .simp[intOf];omega
    .obtain⟨j,rfl⟩:∃j,k=j+1:=⟨k-1,Q⟩
     obtain⟨q,hq⟩:∃q,es[j]? =some q:=⟨_,ZV Q⟩;have⟨b',o',he,hd⟩:=(eL.below fu).at (i:=j) (r:=q.cs) (by rw[Z8,hq];rfl);injection he with he
     injection he with u1 u2
     subst u1 u2;have p4:=cell_regrown (hd 4 _ rfl);clear hd;by_cases hu:q.ZO<x.ZO
     .have KJ:decide (x.ZO<=q.ZO)=false:=by simpa using hu
      by_cases g1:Hid (x.ZO=253402300799)
      .have Ax:(x.ZO==253402300799)=true:=by simpa using g1.out
       by_cases g2:Hid (j+1+1=es.length)
       .have ke:((((j+1:Nat):Int))==((es.length:Int)-1))=true:=by have:=g2.out;simp;omega
        have g5:(((j:Int)+1)==((es.length:Int)-1))=true:=by have:=g2.out;simp;omega
        cases g3:(x.of.toList==[119])
        .have g4:Hid (x.of.toList≠[119]):=by simp only[Hid];simpa using g3
         have HR:Hid (zb=false):=HN.out (j+1) x hx λh=>by exact g4.out (h.of g2.out)
         clear HZ HN ak;refine wp_region_quiet_below RG RG ?_
         repeat (first|go_big_quiet_step ((go_at_call 109;exact cE _ _))|quiet_step ((go_at_call 109;exact cE _ _)))
         refine wpQuiet_nil ?_;rintro _ ⟨⟨dq,aQ⟩,rfl⟩;go_wp2;go_ret;exact⟨ZG HR.out.symm,HX.out dq aQ⟩
        .have g4:Hid (x.of.toList=[119]):=by simp only[Hid];simpa using g3
         have HR:Hid (∀i,i<j+1+1->∀y,es[i]? =some y->vbO r.Vv es i y):=λi hi y hy=>by
          by_cases e:i=j+1
          .subst e;rw[hx]at hy;obtain rfl:=Z9 hy;exact⟨hbe,λi p hi hp=>by obtain rfl:i=j:=Q;rw[hq]at hp;obtain rfl:=Z9 hp;exact hu,⟨λ_=>g2.out,λ_=>g1.out⟩,λ_=>g4.out⟩
          .exact ak.out i Q y hy
         clear HZ HN ak;refine wp_region_quiet_below RG RG ?_
         repeat (first|go_big_quiet_step ((go_at_call 109;exact cE _ _))|quiet_step ((go_at_call 109;exact cE _ _)))
         refine wpQuiet_nil ?_;rintro _ ⟨⟨dq,aQ⟩,rfl⟩;have ac:=below_regrown vVV dq aQ;go_wp2;go_roundw
         .exact⟨j+1+1,Q,RP,HR,(Zp fu ac)⟩
         .simp[intOf];omega
       .have ke:((((j+1:Nat):Int))==((es.length:Int)-1))=false:=by have tI:¬(j+1+1=es.length):=λh=>g2 h;simp;omega
        have g5:(((j:Int)+1)==((es.length:Int)-1))=false:=by have tI:¬(j+1+1=es.length):=λh=>g2 h;simp;omega
        have HR:Hid (zb=false):=HN.out (j+1) x hx λh=>by exact g2 (h.last.mp g1.out)
        clear HZ HN ak;refine wp_region_quiet_below RG RG ?_
        repeat (first|go_big_quiet_step ((go_at_call 109;exact cE _ _))|quiet_step ((go_at_call 109;exact cE _ _)))
        refine wpQuiet_nil ?_;rintro _ ⟨⟨dq,aQ⟩,rfl⟩;go_wp2;go_ret;exact⟨ZG HR.out.symm,HX.out dq aQ⟩
      .have Ax:(x.ZO==253402300799)=false:=by simp;exact λh=>g1 h
       by_cases g2:Hid (j+1+1=es.length)
       .have ke:((((j+1:Nat):Int))==((es.length:Int)-1))=true:=by have:=g2.out;simp;omega
        have g5:(((j:Int)+1)==((es.length:Int)-1))=true:=by have:=g2.out;simp;omega
        have HR:Hid (zb=false):=HN.out (j+1) x hx λh=>by exact g1 (h.last.mpr g2.out)
        clear HZ HN ak;refine wp_region_quiet_below RG RG ?_
        repeat (first|go_big_quiet_step ((go_at_call 109;exact cE _ _))|quiet_step ((go_at_call 109;exact cE _ _)))
        refine wpQuiet_nil ?_;rintro _ ⟨⟨dq,aQ⟩,rfl⟩;go_wp2;go_ret;exact⟨ZG HR.out.symm,HX.out dq aQ⟩
       .have ke:((((j+1:Nat):Int))==((es.length:Int)-1))=false:=by have tI:¬(j+1+1=es.length):=λh=>g2 h;simp;omega
        have g5:(((j:Int)+1)==((es.length:Int)-1))=false:=by have tI:¬(j+1+1=es.length):=λh=>g2 h;simp;omega
        have HR:Hid (∀i,i<j+1+1->∀y,es[i]? =some y->vbO r.Vv es i y):=λi hi y hy=>by
         by_cases e:i=j+1
         .subst e;rw[hx]at hy;obtain rfl:=Z9 hy;exact⟨hbe,λi p hi hp=>by obtain rfl:i=j:=Q;rw[hq]at hp;obtain rfl:=Z9 hp;exact hu,⟨λh=>absurd h g1,λh=>absurd h g2⟩,λh=>absurd h g2⟩
         .exact ak.out i Q y hy
        clear HZ HN ak;refine wp_region_quiet_below RG RG ?_
        repeat (first|go_big_quiet_step ((go_at_call 109;exact cE _ _))|quiet_step ((go_at_call 109;exact cE _ _)))
        refine wpQuiet_nil ?_;rintro _ ⟨⟨dq,aQ⟩,rfl⟩;have ac:=below_regrown vVV dq aQ;go_wp2;go_roundw
        .exact⟨j+1+1,Q,RP,HR,(Zp fu ac)⟩
        .simp[intOf];omega
     .have KJ:decide (x.ZO<=q.ZO)=true:=by simpa using hu
      have HR:Hid (zb=false):=HN.out (j+1) x hx λh=>by exact hu (h.up j q rfl hq)
      clear HZ HN ak;refine wp_region_quiet_below RG RG ?_
      repeat (first|go_big_quiet_step ((go_at_call 109;exact cE _ _))|quiet_step ((go_at_call 109;exact cE _ _)))
      refine wpQuiet_nil ?_;rintro _ ⟨⟨dq,aQ⟩,rfl⟩;go_wp2;go_ret;exact⟨ZG HR.out.symm,HX.out dq aQ⟩
  .have e:k=es.length:=Q
   subst e;have HR:Hid (zb=true):=HZ.out λj y hy=>ak.out j (pO hy).1 y hy
   go_wp2;go_ret;exact⟨ZG HR.out.symm,bQ.trans (hB.mono bQ.size)⟩
theorem jq3{α:Type}[DecidableEq α][Inhabited α](zs:List α):(Lib.compact zs).length=zs.length↔∀j,j<zs.length->Lib.keeps zs.toArray j=true:=by
 unfold Lib.compact Lib.compactUpTo;rw[BX];have h:=List.length_filter_eq_length_iff (p:=Lib.keeps zs.toArray) (l:=List.range zs.length);rw[List.length_range]at h;rw[h];exact⟨λh j hj=>h j (List.mem_range.mpr hj),λh j hj=>h j (List.mem_range.mp hj)⟩
theorem joc{α:Type}[DecidableEq α][Inhabited α](zs:List α)(j:Nat)(hj:j<zs.length):Lib.keeps zs.toArray j=true↔(j=0\/zs[j]? ≠zs[j-1]?):=by
 unfold Lib.keeps;rw[decide_eq_true_iff];have e:∀i,i<zs.length->zs.toArray[i]! =zs[i]! :=λi hi=>by simp[hi]
 rw[e j hj,e (j-1) Q];have e2:∀i (hi:i<zs.length),zs[i]! =zs[i]:=λi hi=>by simp[hi]
 rw[e2 j hj,e2 (j-1) Q,ZV hj,ZV (show j-1<zs.length by omega)];simp
theorem jii{l:List (List UInt8)}(hs:l.Pairwise (· <= ·)):(∀j,j<l.length->(j=0\/l[j]? ≠l[j-1]?))↔l.Nodup:=by
 constructor
 .intro h
  rw[List.nodup_iff_pairwise_ne,List.pairwise_iff_getElem];intro i j hi hj eF he;rw[List.pairwise_iff_getElem]at hs;have h1:l[i]<=l[i+1]:=hs i (i+1) hi Q Q;have h2:l[i+1]<=l[j]:=by
   by_cases e:i+1=j
   .subst e;exact List.le_refl _
   .exact hs (i+1) j Q hj Q
  rw[<- he]at h2;have e3:l[i+1]=l[i]:=List.le_antisymm h2 h1;rcases h (i+1) (by omega)with h4|h4
  .omega
  .apply h4
   rw[show i+1-1=i by omega,ZV (show i+1<l.length by omega),ZV hi,e3]
 .intro h j hj
  by_cases e:j=0
  .exact .inl e
  .right
   rw[ZV hj,ZV (show j-1<l.length by omega)];intro he;rw[List.nodup_iff_pairwise_ne,List.pairwise_iff_getElem]at h;exact h (j-1) j Q hj Q (Z9 he).symm
theorem jlx(l:List (List UInt8)):(l.mergeSort λx y=>decide (x<=y)).Pairwise (· <= ·):=by
 have:=List.pairwise_mergeSort (le:=fun(x y:List UInt8)=>decide (x<=y)) (λa b c h1 h2=>by
  simp at h1 h2 ⊢;exact List.le_trans h1 h2) (λa b=>by
  simp only[Bool.or_eq_true,decide_eq_true_eq];exact List.le_total a b) l
 exact this.imp λh=>by simpa using h
theorem jmo(l:List (List UInt8)):((Lib.compact (l.mergeSort λx y=>decide (x<=y))).length=l.length)↔l.Nodup:=by
 have hl:(l.mergeSort λx y=>decide (x<=y)).length=l.length:=List.length_mergeSort l;rw[<- hl,jq3];have hp:=List.mergeSort_perm l (λx y=>decide (x<=y));rw[<- hp.nodup_iff, <- jii (jlx l)];exact⟨λh j hj=>(joc _ j hj).mp (h j hj),λh j hj=>(joc _ j hj).mpr (h j hj)⟩
theorem jij(l:List (List UInt8)):(∀(k:Nat) x,l[k]? =some x->¬x∈l.take k)↔l.Nodup:=by
 rw[List.nodup_iff_pairwise_ne,List.pairwise_iff_getElem];constructor
 .intro h i j hi hj eF he
  refine h j l[j] (ZV hj) ?_;rw[<- he];exact List.mem_take_iff_getElem.mpr ⟨i,Q,rfl⟩
 .intro h k x hk hm
  obtain⟨Q8,rfl⟩:=pO hk;have⟨i,hi,he⟩:=List.mem_take_iff_getElem.mp hm;exact h i k Q Q8 Q he
def jgx(r:ZW):List ByteArray:=r.YU.map pE.name++r.YW.map vH.name
def jha(l:List ByteArray):List (List UInt8):=l.map (·.data.toList)
def jew(r:ZW):Bool:=decide (jha (jgx r)).Nodup
theorem jwn:∃i:TypeInfo,Tryz.prog.info? 9=some i/\i.zero=some (Rn)/\i.size=1/\i.bytes=16:=⟨_,rfl,rfl,rfl,rfl⟩
theorem js4(w:World)(t:TypeId):(w.alloc (G #[] t)).ownsRow w.heap.size t 1 (U (some (O w.heap.size 0)) 0 0) 0 []:=
 ⟨rfl,.inr ⟨w.heap.size,0,#[],rfl,ZD _,(MapKept.heap_alloc w _).1,ZD _,by unfold maxLen;omega,rfl,rfl⟩⟩
theorem jy8(w:World)(base:Nat)(t:TypeId):w.ownsRow base t 1 nS 0 []:=⟨rfl,.inl ⟨rfl,rfl⟩⟩
theorem jho(h:w.ownsRow base e size v n xs):∀k,v.ownBlock=some k->base<=k:=by
 intro k hk;rcases h.2 with⟨rfl,_⟩|⟨g,cap,cur,rfl,hg,_⟩
 .cases hk
 .simp[Value.ownBlock]at hk;omega
theorem jeh{l:List ByteArray}(h:l[k]? =some x):(l.take (k+1)).map Value.string=(l.take k).map Value.string++[I x]:=by
 rw[List.take_add_one,h];simp
theorem jhe(r:ZW)(v:Value)(w:World)(hv:Zd w v r)(hz:r.YU.length<=1048576)(hl:r.YW.length<=1048576):
  C 126 #[v] w λe w'=>e=V (.bool (jew r))/\Bw w w':=by
 obtain⟨a,b,c,ca,cb,cc,rfl,_,hZ,hA⟩:=hv.form;have⟨i0,hi,aG,aH,aF⟩:=jwn;clear hv;have HB:Hid (jew r=decide (jha (r.YU.map pE.name++r.YW.map vH.name)).Nodup):=rfl;generalize jew r=nb at *;generalize r.Vv.length=rn at *;generalize r.YW=l at *;generalize r.YU=zs at *;have ag:=ZA w (G #[U a rn ca,U b zs.length cb,U c l.length cc] 27);have eL:=hA.below ag;have j8:=hZ.below ag;have ai:(w.alloc (G #[U a rn ca,U b zs.length cb,U c l.length cc] 27)).cell? (O w.heap.size 2)=some (U c l.length cc):=M;unfold C;go_in;go_wp2;generalize hW:(w.alloc (G #[U a rn ca,U b zs.length cb,U c l.length cc] 27))=W at *;go_loopw [3,12] (λs i wr=>∃k:Nat,k<=zs.length/\i=J k/\wr.ownsRow W.heap.size 9 1 s k (((zs.map pE.name).take k).map Value.string)/\Bw W wr) (λ_ i _=>zs.length-(intOf i).toNat)
 .exact⟨0,Q,rfl,jy8 _ _ _,by subst hW;exact ZU _ _⟩
 ·
  obtain⟨k,hk,rfl,hO,hB⟩:=hrel;by_cases hlt:k<zs.length
  .have⟨x,hx⟩:=DV hlt
   obtain⟨b',o,rfl,c0,v,c1,hv⟩:=(j8.below hB).at hx;have hs:=jeh (l:=zs.map pE.name) (k:=k) (x:=x.name) (by rw[Z8,hx];rfl);have HS:=hid hs;obtain⟨ae,ce,rfl,_⟩:=hv;clear hs;have hsz:=hB.size;generalize ((zs.map pE.name).take k).map Value.string=xs at *
   go_wp2_with (first
    |(at_builtin;refine wpList_append_own _ rfl _ _ 92 rfl W.heap.size 9 i0 (.string ⟨#[]⟩) 1 16 Tryz.underlying92 hi aG aH aF rfl RN _ _ _ rfl ((hO.alloc _).alloc _) ⟨wr.heap.size+1,0,none⟩ 1 1 [.string x.name] rfl rfl ?c1 ?c2 ?c3 ?c4 ?c5 ?_)
    |fail)
   case c1=>simp[go_sem]
   case c2=>intro u hu;simp at hu;subst hu;rfl
   case c3=>unfold maxLen;omega
   case c4=>omega
   case c5=>simp;omega
   .intro v' w1 ao af _
    have aj:Bw W w1:=((hB.alloc hsz _).alloc RO _).grown af RO (jho hO);clear af hO;go_wp2;go_roundw
    .exact⟨k+1,Q,RP,by rw[HS.out];exact ao,aj⟩
    .simp[intOf];omega
  .have e:k=zs.length:=Q
   subst e;rw[List.take_of_length_le M]at hO;have y2:wr.cell? (O w.heap.size 2)=some (U c l.length cc):=by rw[(Z4 hB).1 _ _ (ZI ai)];exact ai
   go_wp2;obtain⟨wo,rfl⟩:=wL wr;go_loopw [3,25] (λs i wr=>∃k:Nat,k<=l.length/\i=J k/\wr.ownsRow W.heap.size 9 1 s (zs.length+k) ((zs.map pE.name++(l.map vH.name).take k).map Value.string)/\Bw W wr) (λ_ i _=>l.length-(intOf i).toNat)
   .exact⟨0,Q,rfl,by simpa using hO,hB⟩
   ·
    clear hO hB y2;obtain⟨m,hm,rfl,hO,hB⟩:=hrel;by_cases hlt2:m<l.length
    .have⟨x,hx⟩:=DV hlt2
     obtain⟨b',o,rfl,hc⟩:=(eL.below hB).at (i:=m) (r:=x.cs) (by rw[Z8,hx];rfl);have c0:wr.cell? (O b' (o+m*2))=some (I x.vR):=hc 0 _ rfl;have c1:=hc 1 _ rfl;clear hc;have hs:=jeh (l:=l.map vH.name) (k:=m) (x:=x.name) (by rw[Z8,hx];rfl);have HS:Hid ((zs.map pE.name++(l.map vH.name).take (m+1)).map Value.string=(zs.map pE.name++(l.map vH.name).take m).map Value.string++[I x.name]):=by
      simp only[Hid];rw[MZ,hs, <- List.append_assoc, <- MZ]
     clear hs;have hsz:=hB.size;generalize (zs.map pE.name++(l.map vH.name).take m).map Value.string=xs at *;obtain⟨n,hn⟩:∃n,n=zs.length+m:=⟨_,rfl⟩;have HN:Hid (zs.length+(m+1)=n+1):=by simp only[Hid];omega
     have gF:n<=2097152:=Q;rw[<- hn]at hO;clear hn
     go_wp2_with (first
      |(at_builtin;refine wpList_append_own _ rfl _ _ 92 rfl W.heap.size 9 i0 (.string ⟨#[]⟩) 1 16 Tryz.underlying92 hi aG aH aF rfl RN _ _ _ rfl ((hO.alloc _).alloc _) ⟨wr.heap.size+1,0,none⟩ 1 1 [.string x.name] rfl rfl ?c1 ?c2 ?c3 ?c4 ?c5 ?_)
      |fail)
     case c1=>simp[go_sem]
     case c2=>intro u hu;simp at hu;subst hu;rfl
     case c3=>unfold maxLen;omega
     case c4=>omega
     case c5=>simp;omega
     .intro v' w1 ao af _
      have aj:Bw W w1:=((hB.alloc hsz _).alloc RO _).grown af RO (jho hO);clear af hO;go_wp2;go_roundw
      .exact⟨m+1,Q,RP,by rw[HS.out,HN.out];exact ao,aj⟩
      .simp[intOf];omega
    .have e:m=l.length:=Q
     subst e;rw[List.take_of_length_le M]at hO;obtain⟨n,hn⟩:∃n,n=zs.length+l.length:=⟨_,rfl⟩;have gF:n<=2097152:=Q;rw[<- hn]at hO;have au:(zs.map pE.name++l.map vH.name).length=n:=by simp[hn]
     generalize zs.map pE.name++l.map vH.name=ns at *;clear hn;have Bt:=hO;rw[<- Lib.map_encStr]at Bt;rcases hO.2 with⟨rfl,rfl⟩|⟨g,cap,cur,rfl,_,_,_,_,_,_⟩
     .have HR:Hid (nb=true):=by
       simp only[Hid];rw[HB.out,List.eq_nil_of_length_eq_zero au];rfl
      have hS:=λw=>Tryz.slices_Sort_string_none none 0 w
      have hC:=λw=>Tryz.slices_Compact_string_empty none 0 w
      go_wp2_with (first|(go_at_call 156;refine(hS _).mono ?_;rintro e w' ⟨rfl,rfl⟩)|(go_at_call 157;refine(hC _).mono ?_;rintro e w' ⟨rfl,rfl⟩));go_ret;exact⟨ZG HR.out.symm,(Zp ag hB)⟩
     .have⟨g',fK,he,xT,mB,vo,qw,sP,hH⟩:=Lib.holds_of_ownsRow Bt M
      injection he with mD _ iI
      injection mD with mD
      injection mD with mD
      subst mD iI;have hS:=Tryz.slices_Sort_string g 0 cap (ns.map (·.data.toList)) wr hH mB Q;rw[sP]at hS;have iP:((ns.map (·.data.toList)).mergeSort λx y=>decide (x<=y)).length=n:=by rw[List.length_mergeSort];exact sP
      have hC:=λw' iZ=>Tryz.slices_Compact_string g 0 cap ((ns.map (·.data.toList)).mergeSort λx y=>decide (x<=y)) w' iZ Q Q
      have hK:=jmo (ns.map (·.data.toList));rw[sP]at hK;have JA:∀q os,Go.Sort.Holds encStr (Go.Sort.grow (Go.Sort.putRow encStr (Go.Sort.ahead wr q) g 0 ((ns.map (·.data.toList)).mergeSort λx y=>decide (x<=y)).toArray) os) g 0 ((ns.map (·.data.toList)).mergeSort λx y=>decide (x<=y)).toArray:=λq os=>
       Go.Sort.holds_grow _ _ _ _ _ _ (by simpa using mB) (Go.Sort.holds_putRow _ _ _ _ _ _ (Go.Sort.holds_ahead _ _ _ _ _ _ hH) M)
      rw[iP]at hC;have HR:Hid (nb=(((Lib.compact ((ns.map (·.data.toList)).mergeSort λx y=>decide (x<=y))).length:Int)==(n:Int))):=by
       simp only[Hid];rw[HB.out,Bool.eq_iff_iff];simp only[decide_eq_true_eq,beq_iff_eq,Int.natCast_inj];exact hK.symm
      have uQ:(Lib.compact ((ns.map (·.data.toList)).mergeSort λx y=>decide (x<=y))).length<=n:=by
       unfold Lib.compact Lib.compactUpTo;rw[BX];have:=List.length_filter_le (Lib.keeps ((ns.map (·.data.toList)).mergeSort λx y=>decide (x<=y)).toArray) (List.range ((ns.map (·.data.toList)).mergeSort λx y=>decide (x<=y)).length);rw[List.length_range]at this;exact Nat.le_trans this (Nat.le_of_eq iP)
      generalize (ns.map (·.data.toList)).mergeSort (λx y=>decide (x<=y))=so at *;generalize (Lib.compact so).length=cl at *;clear hO Bt hH hK HB iP sP au;go_wp2_with fail;refine hS.mono ?_;rintro e w2 ⟨rfl,q,os,rfl⟩;go_wp2_with fail;refine(hC _ (JA q os)).mono ?_;rintro e w3 ⟨rfl,q2,rfl⟩;go_wp2;go_ret;refine⟨ZG HR.out.symm,ag.trans (Below.mono (Lib.below_putRow ?_ xT) ag.size)⟩;have hb1:=Lib.below_putRow (enc:=encStr) (q:=q) (d:=so.toArray) hB xT;exact⟨hb1.os,hb1.tape,hb1.output,by simp;have:=hb1.size;simp at this;omega,λk hk=>by rw[Go.Sort.heap_grow_old _ _ (by have:=hb1.size;omega)];exact hb1.block k hk⟩
def ZZ(r:ZW):Bool:=decide (r.Vv.length<=40/\r.YU.length<=12/\r.YW.length<=20)&&(r.Vv.all BF&&(r.YU.all MY&&(r.YW.all jes&&(jew r&&((r.YU.all λz=>z.ZC.all (jb0 r.Vv))&&(r.YW.all λx=>vaE r.YU x.vR))))))
theorem vfV{r:ZW}(h:¬(r.Vv.length<=40/\r.YU.length<=12/\r.YW.length<=20)):ZZ r=false:=by unfold ZZ;rw[dfe h];rfl
theorem vfW{r:ZW}(h:r.Vv.all BF=false):ZZ r=false:=by unfold ZZ;rw[h];simp
theorem viJ{r:ZW}(h:r.YU.all MY=false):ZZ r=false:=by unfold ZZ;rw[h];simp
theorem viK{r:ZW}(h:r.YW.all jes=false):ZZ r=false:=by unfold ZZ;rw[h];simp
theorem viL{r:ZW}(h:jew r=false):ZZ r=false:=by unfold ZZ;rw[h];simp
theorem viM{r:ZW}(h:(r.YU.all λz=>z.ZC.all (jb0 r.Vv))=false):ZZ r=false:=by unfold ZZ;rw[h];simp
theorem viN{r:ZW}(h:(r.YW.all λx=>vaE r.YU x.vR)=false):ZZ r=false:=by unfold ZZ;rw[h];simp
theorem vfY{r:ZW}(h0:r.Vv.length<=40/\r.YU.length<=12/\r.YW.length<=20)(h1:r.Vv.all BF=true)(h2:r.YU.all MY=true)(h3:r.YW.all jes=true)(h4:jew r=true)(h5:(r.YU.all λz=>z.ZC.all (jb0 r.Vv))=true)(h6:(r.YW.all λx=>vaE r.YU x.vR)=true):ZZ r=true:=by unfold ZZ;rw[rT h0,h1,h2,h3,h4,h5,h6];rfl
theorem jbr(r:ZW)(v:Value)(w:World)(hE:Zx w)(hv:Zd w v r)(ok:r.ok)(sm:r.small)(di:∀x∈r.Vv,x.on.size<=1048576):
  C 85 #[v] w λe w'=>e=V (.bool (ZZ r))/\Bw w w':=by
 have⟨a,b,c,ca,cb,cc,jH,fR,iw,kh⟩:=hv.form;have⟨⟨p1,p2⟩,⟨q1,q2⟩,⟨s1,s2⟩⟩:=ok;have⟨m1,m2,m3,m4⟩:=sm;have ag:=ZA w (G #[U a r.Vv.length ca,U b r.YU.length cb,U c r.YW.length cc] 27);have hR:=λw hE (h:Za w a 9 (r.Vv.map ZQ.cs))=>jop r.Vv a ca w hE h p2 di m1
 have hZ:=λw (h:Zo w b r.YU)=>jon r.YU b cb w h q2 m2
 have hK:=λw (h:Za w c 2 (r.YW.map vH.cs))=>joq r.YW c cc w h s2 m3
 have hU:=λw (h:Zd w v r)=>jhe r v w h m2 m3
 have hT:=λw (h:Zd w v r)=>ji6 r v w h m1 m2 q2
 have hY:=λw (h:Zd w v r)=>ji1 r v w h m2 m3
 subst jH;have N0:=@vfV r;have N1:=@vfW r;have N2:=@viJ r;have N3:=@viK r;have N4:=@viL r;have N5:=@viM r;have N6:=@viN r;have YY:=@vfY r;generalize ZZ r=rb at *;by_cases J1:40<r.Vv.length
 .have HR:Hid (rb=false):=N0 Q
  clear N0 N1 N2 N3 N4 N5 N6 YY;unfold C;go_in;go_wp2;go_ret;exact⟨ZG HR.out.symm,ag⟩
 by_cases IY:12<r.YU.length
 .have HR:Hid (rb=false):=N0 Q
  clear N0 N1 N2 N3 N4 N5 N6 YY;unfold C;go_in;go_wp2;go_ret;exact⟨ZG HR.out.symm,ag⟩
 by_cases IZ:20<r.YW.length
 .have HR:Hid (rb=false):=N0 Q
  clear N0 N1 N2 N3 N4 N5 N6 YY;unfold C;go_in;go_wp2;go_ret;exact⟨ZG HR.out.symm,ag⟩
 obtain⟨x0,y0,z0⟩:(λz:World=>z.cell? (O w.heap.size 0)=some (U a r.Vv.length ca)/\z.cell? (O w.heap.size 1)=some (U b r.YU.length cb)/\z.cell? (O w.heap.size 2)=some (U c r.YW.length cc)) (w.alloc (G #[U a r.Vv.length ca,U b r.YU.length cb,U c r.YW.length cc] 27)):=RQ;cases k1:r.Vv.all BF
 .have HR:Hid (rb=false):=N1 k1
  rw[k1]at hR;clear N0 N1 N2 N3 N4 N5 N6 YY;clear k1;unfold C;go_in;go_wp2_with fail;refine(hR _ (hE.of_below ag) (fR.below ag)).mono ?_;rintro e w1 ⟨rfl,hb1⟩;have aj:=Zp ag hb1;go_wp2;go_ret;exact⟨ZG HR.out.symm,aj⟩
 rw[k1]at hR;cases k2:r.YU.all MY
 .have HR:Hid (rb=false):=N2 k2
  rw[k2]at hZ;clear N0 N1 N2 N3 N4 N5 N6 YY;clear k1 k2;unfold C;go_in;go_wp2_with fail;refine(hR _ (hE.of_below ag) (fR.below ag)).mono ?_;rintro e w1 ⟨rfl,hb1⟩;have aj:=Zp ag hb1;have x1:=Z7 hb1 x0 x0;have y1:=Z7 hb1 y0 y0;have z1:=Z7 hb1 z0 z0;go_wp2_with fail;refine(hZ _ (iw.below aj)).mono ?_;rintro e w2 ⟨rfl,ac⟩;have an:=Zp aj ac;go_wp2;go_ret;exact⟨ZG HR.out.symm,an⟩
 rw[k2]at hZ;cases k3:r.YW.all jes
 .have HR:Hid (rb=false):=N3 k3
  rw[k3]at hK;clear N0 N1 N2 N3 N4 N5 N6 YY;clear k1 k2 k3;unfold C;go_in;go_wp2_with fail;refine(hR _ (hE.of_below ag) (fR.below ag)).mono ?_;rintro e w1 ⟨rfl,hb1⟩;have aj:=Zp ag hb1;have x1:=Z7 hb1 x0 x0;have y1:=Z7 hb1 y0 y0;have z1:=Z7 hb1 z0 z0;go_wp2_with fail;refine(hZ _ (iw.below aj)).mono ?_;rintro e w2 ⟨rfl,ac⟩;have an:=Zp aj ac;have x2:=Z7 ac x1 x1;have y2:=Z7 ac y1 y1;have z2:=Z7 ac z1 z1;go_wp2_with fail;refine(hK _ (kh.below an)).mono ?_;rintro e w3 ⟨rfl,ar⟩;have ax:=Zp an ar;go_wp2;go_ret;exact⟨ZG HR.out.symm,ax⟩
 rw[k3]at hK;cases k4:jew r
 .have HR:Hid (rb=false):=N4 k4
  rw[k4]at hU;clear N0 N1 N2 N3 N4 N5 N6 YY;clear k1 k2 k3 k4;unfold C;go_in;go_wp2_with fail;refine(hR _ (hE.of_below ag) (fR.below ag)).mono ?_;rintro e w1 ⟨rfl,hb1⟩;have aj:=Zp ag hb1;have x1:=Z7 hb1 x0 x0;have y1:=Z7 hb1 y0 y0;have z1:=Z7 hb1 z0 z0;go_wp2_with fail;refine(hZ _ (iw.below aj)).mono ?_;rintro e w2 ⟨rfl,ac⟩;have an:=Zp aj ac;have x2:=Z7 ac x1 x1;have y2:=Z7 ac y1 y1;have z2:=Z7 ac z1 z1;go_wp2_with fail;refine(hK _ (kh.below an)).mono ?_;rintro e w3 ⟨rfl,ar⟩;have ax:=Zp an ar;have x3:=Z7 ar x2 x2;have y3:=Z7 ar y2 y2;have z3:=Z7 ar z2 z2;go_wp2_with fail;refine(hU _ (hv.below ax)).mono ?_;rintro e w4 ⟨rfl,aD⟩;have aR:=Zp ax aD;go_wp2;go_ret;exact⟨ZG HR.out.symm,aR⟩
 rw[k4]at hU;cases k5:(r.YU.all λz=>z.ZC.all (jb0 r.Vv))
 .have HR:Hid (rb=false):=N5 k5
  rw[k5]at hT;clear N0 N1 N2 N3 N4 N5 N6 YY;clear k1 k2 k3 k4 k5;unfold C;go_in;go_wp2_with fail;refine(hR _ (hE.of_below ag) (fR.below ag)).mono ?_;rintro e w1 ⟨rfl,hb1⟩;have aj:=Zp ag hb1;have x1:=Z7 hb1 x0 x0;have y1:=Z7 hb1 y0 y0;have z1:=Z7 hb1 z0 z0;go_wp2_with fail;refine(hZ _ (iw.below aj)).mono ?_;rintro e w2 ⟨rfl,ac⟩;have an:=Zp aj ac;have x2:=Z7 ac x1 x1;have y2:=Z7 ac y1 y1;have z2:=Z7 ac z1 z1;go_wp2_with fail;refine(hK _ (kh.below an)).mono ?_;rintro e w3 ⟨rfl,ar⟩;have ax:=Zp an ar;have x3:=Z7 ar x2 x2;have y3:=Z7 ar y2 y2;have z3:=Z7 ar z2 z2;go_wp2_with fail;refine(hU _ (hv.below ax)).mono ?_;rintro e w4 ⟨rfl,aD⟩;have aR:=Zp ax aD;have x4:=Z7 aD x3 x3;have y4:=Z7 aD y3 y3;have z4:=Z7 aD z3 z3;go_wp2_with fail;refine(hT _ (hv.below aR)).mono ?_;rintro e w5 ⟨rfl,aV⟩;have bG:=Zp aR aV;go_wp2;go_ret;exact⟨ZG HR.out.symm,bG⟩
 rw[k5]at hT;cases k6:(r.YW.all λx=>vaE r.YU x.vR)
 .have HR:Hid (rb=false):=N6 k6
  rw[k6]at hY;clear N0 N1 N2 N3 N4 N5 N6 YY;clear k1 k2 k3 k4 k5 k6;unfold C;go_in;go_wp2_with fail;refine(hR _ (hE.of_below ag) (fR.below ag)).mono ?_;rintro e w1 ⟨rfl,hb1⟩;have aj:=Zp ag hb1;have x1:=Z7 hb1 x0 x0;have y1:=Z7 hb1 y0 y0;have z1:=Z7 hb1 z0 z0;go_wp2_with fail;refine(hZ _ (iw.below aj)).mono ?_;rintro e w2 ⟨rfl,ac⟩;have an:=Zp aj ac;have x2:=Z7 ac x1 x1;have y2:=Z7 ac y1 y1;have z2:=Z7 ac z1 z1;go_wp2_with fail;refine(hK _ (kh.below an)).mono ?_;rintro e w3 ⟨rfl,ar⟩;have ax:=Zp an ar;have x3:=Z7 ar x2 x2;have y3:=Z7 ar y2 y2;have z3:=Z7 ar z2 z2;go_wp2_with fail;refine(hU _ (hv.below ax)).mono ?_;rintro e w4 ⟨rfl,aD⟩;have aR:=Zp ax aD;have x4:=Z7 aD x3 x3;have y4:=Z7 aD y3 y3;have z4:=Z7 aD z3 z3;go_wp2_with fail;refine(hT _ (hv.below aR)).mono ?_;rintro e w5 ⟨rfl,aV⟩;have bG:=Zp aR aV;have x5:=Z7 aV x4 x4;have y5:=Z7 aV y4 y4;have z5:=Z7 aV z4 z4;go_wp2_with fail;refine(hY _ (hv.below bG)).mono ?_;rintro e w6 ⟨rfl,hb6⟩;have cp:=Zp bG hb6;go_wp2;go_ret;exact⟨ZG HR.out.symm,cp⟩
 rw[k6]at hY;have HR:Hid (rb=true):=YY Q k1 k2 k3 k4 k5 k6;clear N0 N1 N2 N3 N4 N5 N6 YY k1 k2 k3 k4 k5 k6;unfold C;go_in;go_wp2_with fail;refine(hR _ (hE.of_below ag) (fR.below ag)).mono ?_;rintro e w1 ⟨rfl,hb1⟩;have aj:=Zp ag hb1;have x1:=Z7 hb1 x0 x0;have y1:=Z7 hb1 y0 y0;have z1:=Z7 hb1 z0 z0;go_wp2_with fail;refine(hZ _ (iw.below aj)).mono ?_;rintro e w2 ⟨rfl,ac⟩;have an:=Zp aj ac;have x2:=Z7 ac x1 x1;have y2:=Z7 ac y1 y1;have z2:=Z7 ac z1 z1;go_wp2_with fail;refine(hK _ (kh.below an)).mono ?_;rintro e w3 ⟨rfl,ar⟩;have ax:=Zp an ar;have x3:=Z7 ar x2 x2;have y3:=Z7 ar y2 y2;have z3:=Z7 ar z2 z2;go_wp2_with fail;refine(hU _ (hv.below ax)).mono ?_;rintro e w4 ⟨rfl,aD⟩;have aR:=Zp ax aD;have x4:=Z7 aD x3 x3;have y4:=Z7 aD y3 y3;have z4:=Z7 aD z3 z3;go_wp2_with fail;refine(hT _ (hv.below aR)).mono ?_;rintro e w5 ⟨rfl,aV⟩;have bG:=Zp aR aV;have x5:=Z7 aV x4 x4;have y5:=Z7 aV y4 y4;have z5:=Z7 aV z4 z4;go_wp2_with fail;refine(hY _ (hv.below bG)).mono ?_;rintro e w6 ⟨rfl,hb6⟩;have cp:=Zp bG hb6;go_wp2;go_ret;exact⟨ZG HR.out.symm,cp⟩
theorem jf6{w':World}(h:w.ownsRow base e size v n xs)(hb:Bw w w'):w'.ownsRow base e size v n xs:=by
 refine⟨h.1,?_⟩;rcases h.2 with h2|⟨g,cap,cur,hv,hg,hh,rest⟩
 .exact .inl h2
 .refine .inr ⟨g,cap,cur,hv,hg,?_,rest⟩
  rw[hb.block g (by
   rcases Nat.lt_or_ge g w.heap.size with h'|h'
   .exact h'
   .rw[Array.getElem?_eq_none h']at hh;cases hh)]
  exact hh
theorem jni(h:w.ownsRow base e size v n xs)(hn:0<n):∃g cap,v=so g n cap:=by
 rcases h.2 with⟨_,h0⟩|⟨g,cap,_,hv,_⟩
 .omega
 .exact⟨g,cap,hv⟩
theorem jvq{g cap:Nat}(h:w.ownsRow base e 1 (so g n cap) n (ss.map Value.string)):Jm w (some (O g 0)) ss/\n<=cap/\ss.length=n:=by
 have hl:ss.length=n:=by simpa using h.1
 rcases h.2 with⟨h0,_⟩|⟨g',fK,cur,hv,hg,hh,hc,hm,hs,ht⟩
 .cases h0
 .injection hv with h1 _ h3
  injection h1 with h1
  injection h1 with h1
  subst h1 h3;refine⟨.inr ⟨g,0,rfl,λi s hi=>?_⟩,hc,hl⟩;have i7:=(pO hi).1;have e1:(cur.toList.take (n*1))[i]? =(ss.map Value.string)[i]? :=by rw[ht]
  rw[List.getElem?_take,if_pos Q,Array.getElem?_toList,Z8,hi]at e1;simp only[World.cell?,hh,Nat.zero_add];simp only[Option.isSome_none,Bool.false_eq_true,if_false];exact e1
theorem jws:inB ss t=true↔t.data.toList∈jha ss:=by
 unfold inB jha;rw[List.any_eq_true,List.mem_map];constructor
 .rintro⟨x,hx,he⟩
  exact⟨x,hx,by rw[beq_iff_eq,ByteArray.toList_eq,ByteArray.toList_eq]at he;exact he⟩
 .rintro⟨x,hx,he⟩
  exact⟨x,hx,by rw[beq_iff_eq,ByteArray.toList_eq,ByteArray.toList_eq];exact he⟩
theorem jr7:inB (zs.map pE.name) t=vaE zs t:=by
 unfold inB vaE;rw[List.any_map];rfl
structure veL(r:ZW):Prop where
 lens:r.Vv.length<=40/\r.YU.length<=12/\r.YW.length<=20
 Vv:r.Vv.all BF=true
 YU:r.YU.all MY=true
 YW:r.YW.all jes=true
 names:jew r=true
 there:(r.YU.all λz=>z.ZC.all (jb0 r.Vv))=true
 has:(r.YW.all λx=>vaE r.YU x.vR)=true
theorem j01(h:ZZ r=true):veL r:=by
 unfold ZZ at h;simp only[vB,decide_eq_true_eq]at h;have⟨h0,h1,h2,h3,h4,h5,h6⟩:=h;exact⟨h0,h1,h2,h3,h4,h5,h6⟩
theorem jie(h:veL r->False):ZZ r=false:=by
 cases hb:ZZ r
 .rfl
 .exact(h (j01 hb)).elim
theorem jy0{x:ZQ}(hk:r.Vv[k]? =some x)(h:BF x=false):ZZ r=false:=vfW (jg5 hk h)
theorem jyz(hk:r.YU[k]? =some z)(h:jb7 r.Vv z=false):ZZ r=false:=jie λt=>by
 have:=(jkj t.Vv).mp ⟨t.YU,t.there⟩ z (ui hk);rw[jmv this]at h;cases h
theorem jy1{x:vH}(hk:r.YW[k]? =some x)(h:BH x.name=false\/inB (r.YU.map pE.name) x.vR=false):ZZ r=false:=jie λt=>by
 have h1:=List.all_eq_true.mp t.YW x (ui hk);have h2:=List.all_eq_true.mp t.has x (ui hk);unfold jes at h1;simp only[vB]at h1;rcases h with h|h
 .rw[h1.2]at h;cases h
 .rw[jr7,h2]at h;cases h
theorem jk1(l:List ByteArray)(k:Nat):jha (l.take k)=(jha l).take k:=by unfold jha;rw[List.map_take]
theorem j1u(hk:(jgx r)[k]? =some x)(h:inB ((jgx r).take k) x=true):ZZ r=false:=jie λt=>by
 have hn:(jha (jgx r)).Nodup:=by have:=t.names;unfold jew at this;exact Nb this
 rw[jws,jk1]at h;exact(jij _).mpr hn k x.data.toList (by unfold jha;rw[Z8,hk];rfl) h
theorem j1v(h0:r.Vv.length<=40/\r.YU.length<=12/\r.YW.length<=20)(h1:∀(k:Nat) x,r.Vv[k]? =some x->BF x=true)(h2:∀(k:Nat) z,r.YU[k]? =some z->jb7 r.Vv z=true)
  (h3:∀(k:Nat) x,r.YW[k]? =some x->BH x.name=true/\inB (r.YU.map pE.name) x.vR=true) (h4:∀(k:Nat) x,(jgx r)[k]? =some x->inB ((jgx r).take k) x=false):ZZ r=true:=by
 have k1:r.Vv.all BF=true:=jed λj _ x hx=>h1 j x hx
 have kz:∀z∈r.YU,vcx r.Vv z:=λz hz=>by
  have⟨k,hk⟩:=lgo hz;exact veG.mp (h2 k z hk)
 have⟨k2,k5⟩:=(jkj k1).mpr kz;have⟨k3,k6⟩:=(jth (ls:=r.YW) λz hz=>(kz z hz).name).mpr λx hx=>by
  have⟨k,hk⟩:=lgo hx;have:=h3 k x hk;rw[jr7]at this;exact this
 refine vfY h0 k1 k2 k3 ?_ k5 k6;unfold jew;refine rT ((jij _).mp λk x hk hm=>?_);unfold jha at hk;rw[Z8]at hk;obtain⟨y,hy,rfl⟩:=Option.map_eq_some_iff.mp hk;have:=h4 k y hy;rw[<- jk1, <- jws]at hm;rw[this]at hm;cases hm
theorem jc7(r:ZW)(v:Value)(w:World)(hv:Zd w v r)(ok:r.ok)(sm:r.small)(di:∀x∈r.Vv,x.on.size<=1048576):
  C 30 #[v] w λe w'=>e=V (.bool (ZZ r))/\Bw w w':=by
 have⟨a,b,c,ca,cb,cc,jH,fR,iw,kh⟩:=hv.form;have⟨⟨p1,p2⟩,⟨q1,q2⟩,⟨s1,s2⟩⟩:=ok;have⟨m1,m2,m3,m4⟩:=sm;have⟨i0,hi,aG,aH,aF⟩:=jwn;have ag:=ZA w (G #[U a r.Vv.length ca,U b r.YU.length cb,U c r.YW.length cc] 27);have N0:=@vfV r;have rO:Hid (∀(k:Nat) (x:ZQ),r.Vv[k]? =some x->BF x=false->ZZ r=false):=λk x h1 h2=>jy0 h1 h2
 have gK:Hid (∀(k:Nat) (z:pE),r.YU[k]? =some z->jb7 r.Vv z=false->ZZ r=false):=λk x h1 h2=>jyz h1 h2
 have jt:Hid (∀(k:Nat) (x:vH),r.YW[k]? =some x->(BH x.name=false\/inB (r.YU.map pE.name) x.vR=false)->ZZ r=false):=λk x h1 h2=>jy1 h1 h2
 have nG:Hid (∀(k:Nat) (x:ByteArray),(r.YU.map pE.name++r.YW.map vH.name)[k]? =some x->inB ((r.YU.map pE.name++r.YW.map vH.name).take k) x=true->ZZ r=false):=λk x h1 h2=>j1u h1 h2
 have HY:Hid ((r.Vv.length<=40/\r.YU.length<=12/\r.YW.length<=20)->(∀(k:Nat) x,r.Vv[k]? =some x->BF x=true)->(∀(k:Nat) z,r.YU[k]? =some z->jb7 r.Vv z=true)->
  (∀(k:Nat) x,r.YW[k]? =some x->BH x.name=true/\inB (r.YU.map pE.name) x.vR=true)->(∀(k:Nat) x,(r.YU.map pE.name++r.YW.map vH.name)[k]? =some x->inB ((r.YU.map pE.name++r.YW.map vH.name).take k) x=false)->ZZ r=true):=λh0 h1 h2 h3 h4=>j1v h0 h1 h2 h3 h4
 generalize ZZ r=rb at *;subst jH;by_cases J1:40<r.Vv.length
 .have HR:Hid (rb=false):=N0 Q
  clear N0 rO gK jt nG HY;unfold C;go_in;go_wp2;go_ret;exact⟨ZG HR.out.symm,ag⟩
 by_cases IY:12<r.YU.length
 .have HR:Hid (rb=false):=N0 Q
  clear N0 rO gK jt nG HY;unfold C;go_in;go_wp2;go_ret;exact⟨ZG HR.out.symm,ag⟩
 by_cases IZ:20<r.YW.length
 .have HR:Hid (rb=false):=N0 Q
  clear N0 rO gK jt nG HY;unfold C;go_in;go_wp2;go_ret;exact⟨ZG HR.out.symm,ag⟩
 clear N0;obtain⟨x0,y0,z0⟩:(λz:World=>z.cell? (O w.heap.size 0)=some (U a r.Vv.length ca)/\z.cell? (O w.heap.size 1)=some (U b r.YU.length cb)/\z.cell? (O w.heap.size 2)=some (U c r.YW.length cc)) (w.alloc (G #[U a r.Vv.length ca,U b r.YU.length cb,U c r.YW.length cc] 27)):=RQ;have HL:Hid (r.Vv.length<=40/\r.YU.length<=12/\r.YW.length<=20):=by simp only[Hid];omega
 have nZ:=js4 (w.alloc (G #[U a r.Vv.length ca,U b r.YU.length cb,U c r.YW.length cc] 27)) 9;have BL:=(ZU (w.alloc (G #[U a r.Vv.length ca,U b r.YU.length cb,U c r.YW.length cc] 27)).heap.size (w.alloc (G #[U a r.Vv.length ca,U b r.YU.length cb,U c r.YW.length cc] 27))).alloc (ZD _) (G #[] 9);have AS:=fR.below ag;have AT:=iw.below ag;have AR:=kh.below ag;have ej:=hv.below ag;clear fR iw kh hv;have j6:Hid ((w.alloc (G #[U a r.Vv.length ca,U b r.YU.length cb,U c r.YW.length cc] 27)).heap.size=w.heap.size+1):=by simp[Hid]
 unfold C;go_in;go_wp2;generalize hW:(w.alloc (G #[U a r.Vv.length ca,U b r.YU.length cb,U c r.YW.length cc] 27))=W at *;generalize j7:W.alloc (G #[] 9)=W1 at *;go_loopw [4] (λi wr=>∃k:Nat,k<=r.Vv.length/\i=J k/\Hid (∀j,j<k->∀x,r.Vv[j]? =some x->BF x=true)/\Bw W1 wr) (λi _=>r.Vv.length-(intOf i).toNat)
 .exact⟨0,Q,rfl,λj hj=>Q,by subst j7;exact ZU _ _⟩
 ·
  obtain⟨k,hk,rfl,ak,aj⟩:=hrel;have hB:=Zp BL aj;have dr:=Zp ag hB;have x1:=Z7 hB x0 x0;have y1:=Z7 hB y0 y0;have z1:=Z7 hB z0 z0;by_cases hlt:k<r.Vv.length
  .have⟨x,hx⟩:=DV hlt
   obtain⟨b',o,rfl,hc⟩:=(AS.below hB).at (i:=k) (r:=x.cs) (by rw[Z8,hx];rfl);have hS:=λw=>jm9 x w (p2 x (ui hx)) (di x (ui hx))
   have c0:wr.cell? (O b' (o+k*9))=some (I x.name):=hc 0 _ rfl;have c1:=hc 1 _ rfl;have c2:=hc 2 _ rfl;have c3:=hc 3 _ rfl;have c4:=hc 4 _ rfl;have c5:=hc 5 _ rfl;have c6:=hc 6 _ rfl;have c7:=hc 7 _ rfl;have c8:=hc 8 _ rfl;clear hc;unfold ZQ.v at hS;cases hb:BF x
   .have HR:Hid (rb=false):=rO.out k x hx hb
    rw[hb]at hS;clear hb rO gK jt nG HY;go_wp2_with fail;refine(hS _).mono ?_;rintro e w2 ⟨rfl,ac⟩;go_wp2;go_ret;exact⟨ZG HR.out.symm,(Zp dr ac)⟩
   .have HR:Hid (∀j,j<k+1->∀x,r.Vv[j]? =some x->BF x=true):=λj hj y hy=>by
     by_cases e:j=k
     .subst e;rw[hx]at hy;obtain rfl:=Z9 hy;exact hb
     .exact ak.out j Q y hy
    rw[hb]at hS;clear hb;go_wp2_with fail;refine(hS _).mono ?_;rintro e w2 ⟨rfl,ac⟩;go_wp2;go_roundw
    .exact⟨k+1,Q,RP,HR,(Zp aj ac)⟩
    .simp[intOf];omega
  .have e:k=r.Vv.length:=Q
   subst e;have H1:Hid (∀(k:Nat) x,r.Vv[k]? =some x->BF x=true):=λj x hx=>ak.out j (pO hx).1 x hx
   have dW:=jf6 nZ aj;clear ak rO;go_wp2;obtain⟨wo,rfl⟩:=wL wr;go_loopw [3,5] (λs i wr=>∃k:Nat,k<=r.YU.length/\i=J k/\(∃g cap,s=so g k cap)/\wr.ownsRow W.heap.size 9 1 s k (((r.YU.map pE.name).take k).map Value.string)/\Hid (∀j,j<k->∀x,r.YU[j]? =some x->jb7 r.Vv x=true)/\Bw W wr) (λ_ i _=>r.YU.length-(intOf i).toNat)
   .exact⟨0,Q,rfl,⟨_,_,rfl⟩,by rw[<- j6.out];exact dW,λj hj=>Q,hB⟩
   ·
    clear dW nZ hB dr x1 y1 z1 aj;obtain⟨k,hk,rfl,kB,hO,ak,hB⟩:=hrel;have dr:=Zp ag hB;have x1:=Z7 hB x0 x0;have y1:=Z7 hB y0 y0;have z1:=Z7 hB z0 z0;by_cases hlt:k<r.YU.length
    .have⟨x,hx⟩:=DV hlt
     obtain⟨b',o,rfl,c0,u,c1,hu⟩:=(AT.below hB).at hx;have vV:=q2 x (ui hx);have cE:∀dd os,C 70 #[.agg #[U a r.Vv.length ca,U (some (O b' o)) r.YU.length cb,U c r.YW.length cc],.agg #[I x.name,u]] (grow (redrawn wr dd) os) λe cW=>e=V (.bool (jb7 r.Vv x))/\∃p:Regrown,cW=grow (redrawn wr p.d) p.os:=λdd os=>Calls.regrown_of (jm8 r _ x u _ ((ej.below hB).below (below_regrown wr dd os)) (hu.below (below_regrown wr dd os)) vV m1)
     obtain⟨ae,ce,rfl,_⟩:=hu;have kx:=cell_regrown x1;have ky:=cell_regrown y1;have kz:=cell_regrown z1;have qT:=cell_regrown c0;have qU:=cell_regrown c1;cases hb:jb7 r.Vv x
     .have HR:Hid (rb=false):=gK.out k x hx hb
      rw[hb]at cE;clear hb gK jt nG HY kB hO;go_wp2_with fail;refine wp_region_quiet_below RG RG ?_
      repeat (quiet_step ((go_at_call 70;exact cE _ _)))
      refine wpQuiet_nil ?_;intro _ bM;have⟨⟨dq,aQ⟩,aO⟩:=bM;subst aO;have ac:=below_regrown wr dq aQ;go_wp2;go_ret;exact⟨ZG HR.out.symm,(Zp dr ac)⟩
     .have HR:Hid (∀j,j<k+1->∀x,r.YU[j]? =some x->jb7 r.Vv x=true):=λj hj y hy=>by
       by_cases e:j=k
       .subst e;rw[hx]at hy;obtain rfl:=Z9 hy;exact hb
       .exact ak.out j Q y hy
      rw[hb]at cE;have hs:=jeh (l:=r.YU.map pE.name) (k:=k) (x:=x.name) (by rw[Z8,hx];rfl);have HS:=hid hs;clear hs hb kB;go_wp2_with fail;refine wp_region_quiet_below RG RG ?_
      repeat (quiet_step ((go_at_call 70;exact cE _ _)))
      refine wpQuiet_nil ?_;intro vVV bM;have⟨⟨dq,aQ⟩,aO⟩:=bM;have ac:Bw wr vVV:=aO ▸ below_regrown wr dq aQ;clear aO kx ky kz qT qU cE;have an:=Zp hB ac;have aW:=jf6 hO ac;have x2:=Z7 ac x1 x1;have y2:=Z7 ac y1 y1;have d0:=Z7 ac c0 c0;have hsz:=an.size;clear ac hO x1 y1 z1 c0 c1;generalize ((r.YU.map pE.name).take k).map Value.string=xs at *
      go_wp2_with (first
       |(at_builtin;refine wpList_append_own _ rfl _ _ 92 rfl W.heap.size 9 i0 (.string ⟨#[]⟩) 1 16 Tryz.underlying92 hi aG aH aF rfl RN _ _ _ rfl (aW.alloc _) ⟨vVV.heap.size,0,none⟩ 1 1 [.string x.name] rfl rfl ?c1 ?c2 ?c3 ?c4 ?c5 ?_)
       |fail)
      all_goals try go_simp
      case c2=>rfl
      case c3=>unfold maxLen;omega
      case c4=>omega
      case c5=>omega
      .intro v' w3 ao af _
       have ax:Bw W w3:=(an.alloc hsz _).grown af RO (jho aW);clear af aW;go_wp2;go_roundw
       .exact⟨k+1,Q,RP,jni ao Q,by rw[HS.out];exact ao,HR,ax⟩
       .simp[intOf];omega
    .have e:k=r.YU.length:=Q
     subst e;have H2:Hid (∀(k:Nat) x,r.YU[k]? =some x->jb7 r.Vv x=true):=λj x hx=>ak.out j (pO hx).1 x hx
     obtain⟨g0,Iu,rfl⟩:=kB;rw[List.take_of_length_le M]at hO;clear ak gK;go_wp2;obtain⟨Q7,rfl⟩:=wL wr;go_loopw [3,7] (λs i wr=>∃k:Nat,k<=r.YW.length/\i=J k/\(∃g cap,s=so g (r.YU.length+k) cap)/\wr.ownsRow W.heap.size 9 1 s (r.YU.length+k) ((r.YU.map pE.name++(r.YW.map vH.name).take k).map Value.string)/\Hid (∀j,j<k->∀x,r.YW[j]? =some x->BH x.name=true/\inB (r.YU.map pE.name) x.vR=true)/\Bw W wr) (λ_ i _=>r.YW.length-(intOf i).toNat)
     .exact⟨0,Q,rfl,⟨_,_,rfl⟩,by simpa using hO,λj hj=>Q,hB⟩
     ·
      clear hO hB dr x1 y1 z1;obtain⟨k,hk,rfl,⟨g,cap,rfl⟩,hO,ak,hB⟩:=hrel;have dr:=Zp ag hB;have x1:=Z7 hB x0 x0;have y1:=Z7 hB y0 y0;have z1:=Z7 hB z0 z0;have⟨xO,eh,au⟩:=jvq hO;have mi:=xO.take r.YU.length;rw[List.take_append_of_le_length M,List.take_of_length_le M]at mi;by_cases hlt:k<r.YW.length
      .have⟨x,hx⟩:=DV hlt
       obtain⟨b',o,rfl,hc⟩:=(AR.below hB).at (i:=k) (r:=x.cs) (by rw[Z8,hx];rfl);have c0:wr.cell? (O b' (o+k*2))=some (I x.vR):=hc 0 _ rfl;have c1:=hc 1 _ rfl;clear hc;have vV:=s2 x (ui hx);have hN:=λw=>jbu x.name w vV.2
       have hI:=λn=>jkv (r.YU.map pE.name) (some (O g 0)) cap x.vR (wr.drewN n) (mi.below (below_drewN (ZU _ _) n)) RO
       rw[BX]at hI;have j0:(0:Int)<=(r.YU.length:Int):=Q;have j1:(r.YU.length:Int)<=(cap:Int):=Q;cases hb1:BH x.name
       .have HR:Hid (rb=false):=jt.out k x hx (.inl hb1)
        rw[hb1]at hN;clear hb1 jt nG HY;go_wp2_with fail;go_quiet ((first|(go_at_call 60;exact Calls.quiet_of_same (hN _))|(go_at_call 71;exact Calls.quiet_of_same (hI _))));go_wp2;go_ret;exact⟨ZG HR.out.symm,below_drewN dr _⟩
       .rw[hb1]at hN
        cases ac:inB (r.YU.map pE.name) x.vR
        .have HR:Hid (rb=false):=jt.out k x hx (.inr ac)
         rw[ac]at hI;clear hb1 ac jt nG HY;go_wp2_with fail;go_quiet ((first|(go_at_call 60;exact Calls.quiet_of_same (hN _))|(go_at_call 71;exact Calls.quiet_of_same (hI _))));go_wp2;go_ret;exact⟨ZG HR.out.symm,below_drewN dr _⟩
        .have HR:Hid (∀j,j<k+1->∀x,r.YW[j]? =some x->BH x.name=true/\inB (r.YU.map pE.name) x.vR=true):=λj hj y hy=>by
          by_cases e:j=k
          .subst e;rw[hx]at hy;obtain rfl:=Z9 hy;exact⟨hb1,ac⟩
          .exact ak.out j Q y hy
         rw[ac]at hI;clear hb1 ac;go_wp2_with fail;go_quiet ((first|(go_at_call 60;exact Calls.quiet_of_same (hN _))|(go_at_call 71;exact Calls.quiet_of_same (hI _))));obtain⟨vVV,hV⟩:∃vVV,vVV=wr.drewN nq:=⟨_,rfl⟩;rw[<- hV];have ac:Bw wr vVV:=hV ▸ below_drewN (ZU _ _) _;clear hV hI hN xO mi;have an:=Zp hB ac;have aW:=jf6 hO ac;have z2:=Z7 ac z1 z1;have d1:=Z7 ac c1 c1;have hsz:=an.size;have hs:=jeh (l:=r.YW.map vH.name) (k:=k) (x:=x.name) (by rw[Z8,hx];rfl);have HS:Hid ((r.YU.map pE.name++(r.YW.map vH.name).take (k+1)).map Value.string=(r.YU.map pE.name++(r.YW.map vH.name).take k).map Value.string++[I x.name]):=by
          simp only[Hid];rw[MZ,hs, <- List.append_assoc, <- MZ]
         clear hs ac hO x1 y1 z1 c0 c1 au;generalize (r.YU.map pE.name++(r.YW.map vH.name).take k).map Value.string=xs at *;obtain⟨n,hn⟩:∃n,n=r.YU.length+k:=⟨_,rfl⟩;have Eo:Hid (r.YU.length+(k+1)=n+1):=by simp only[Hid];omega
         have gF:n<=2097152:=Q;rw[<- hn]at aW ⊢;clear hn
         go_wp2_with (first
          |(at_builtin;refine wpList_append_own _ rfl _ _ 92 rfl W.heap.size 9 i0 (.string ⟨#[]⟩) 1 16 Tryz.underlying92 hi aG aH aF rfl RN _ _ _ rfl (aW.alloc _) ⟨vVV.heap.size,0,none⟩ 1 1 [.string x.name] rfl rfl ?d1 ?d2 ?d3 ?d4 ?d5 ?_)
          |fail)
         all_goals try go_simp
         case d2=>rfl
         case d3=>unfold maxLen;omega
         case d4=>omega
         case d5=>omega
         .intro v' w3 ao af _
          have ax:Bw W w3:=(an.alloc hsz _).grown af RO (jho aW);clear af aW;go_wp2;go_roundw
          .exact⟨k+1,Q,RP,by rw[Eo.out];exact jni ao Q,by rw[HS.out,Eo.out];exact ao,HR,ax⟩
          .simp[intOf];omega
      .have e:k=r.YW.length:=Q
       subst e;have H3:Hid (∀(k:Nat) x,r.YW[k]? =some x->BH x.name=true/\inB (r.YU.map pE.name) x.vR=true):=λj x hx=>ak.out j (pO hx).1 x hx
       have Ij:Hid ((∀(k:Nat) x,(r.YU.map pE.name++r.YW.map vH.name)[k]? =some x->inB ((r.YU.map pE.name++r.YW.map vH.name).take k) x=false)->rb=true):=λh4=>HY.out HL.out H1.out H2.out H3.out h4
       rw[List.take_of_length_le M]at xO au;clear ak jt HY HL H1 H2 H3 mi hO j6 j7;generalize r.YU.map pE.name++r.YW.map vH.name=ns at *;have gF:ns.length<=1048576:=Q;rw[<- au];rw[<- au]at eh;clear au;go_wp2;obtain⟨MH,rfl⟩:=wL wr;go_loopw [8] (λi wr=>∃k:Nat,k<=ns.length/\i=J k/\Hid (∀j,j<k->∀x,ns[j]? =some x->inB (ns.take j) x=false)/\Bw MH wr) (λi _=>ns.length-(intOf i).toNat)
       .exact⟨0,Q,rfl,λj hj=>Q,ZU _ _⟩
       ·
        obtain⟨k,hk,rfl,ak,aR⟩:=hrel;have dA:=xO.below aR;have EZ:=Zp dr aR;by_cases hlt:k<ns.length
        .have⟨x,hx⟩:=DV hlt
         have⟨b',o',he,c0⟩:=dA.at hx;injection he with he
         injection he with u1 u2
         subst u1 u2;rw[Nat.zero_add]at c0;have hI:=λn=>jkv (ns.take k) (some (O g 0)) cap x (wr.drewN n) ((dA.take k).below (below_drewN (ZU _ _) n)) (by rw[List.length_take];omega)
         rw[List.length_take,Nat.min_eq_left Q]at hI;have j0:(0:Int)<=(k:Int):=Q;have j1:(k:Int)<=(cap:Int):=Q;have j2:(k:Int)<(ns.length:Int):=Q;cases hb:inB (ns.take k) x
         .have HR:Hid (∀j,j<k+1->∀x,ns[j]? =some x->inB (ns.take j) x=false):=λj hj y hy=>by
           by_cases e:j=k
           .subst e;rw[hx]at hy;obtain rfl:=Z9 hy;exact hb
           .exact ak.out j Q y hy
          rw[hb]at hI;clear hb;go_wp2_with fail;go_quiet ((go_at_call 71;exact Calls.quiet_of_same (hI _)));go_wp2;go_roundw
          .exact⟨k+1,Q,RP,HR,below_drewN aR _⟩
          .simp[intOf];omega
         .have HR:Hid (rb=false):=nG.out k x hx hb
          rw[hb]at hI;clear hb;go_wp2_with fail;go_quiet ((go_at_call 71;exact Calls.quiet_of_same (hI _)));go_wp2;go_ret;exact⟨ZG HR.out.symm,below_drewN EZ _⟩
        .have e:k=ns.length:=Q
         subst e;have HR:Hid (rb=true):=Ij.out λj x hx=>ak.out j (pO hx).1 x hx
         go_wp2;go_ret;exact⟨ZG HR.out.symm,EZ⟩
