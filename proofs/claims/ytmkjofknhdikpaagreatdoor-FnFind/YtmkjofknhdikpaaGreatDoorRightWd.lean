import Derived.Test.YtmkjofknhdikpaaGreatDoorRightQd
import Derived.Lib.OwnBridge
set_option maxRecDepth 100000
set_option maxHeartbeats 0
set_option linter.unusedSimpArgs false
open Go.RowKit Go.Sort
namespace Go.Proofs.YtmkjofknhdikpaaGreatDoor
variable{rs:List Ud}{s t x:ByteArray}{es:List TX}{e:TypeId}{base k n size:Nat}{z:UE}{zs:List UE}{w:World}{v:Value}{xs:List Value}{ss:List ByteArray}{r:Un}
theorem jw0(hr:rs.all U5=true)(h:hasB rs s=true):U6 s=true:=by
 unfold hasB at h;have⟨x,hx,he⟩:=List.any_eq_true.mp h;have h1:=List.all_eq_true.mp hr x hx;unfold U5 at h1;simp only[UM]at h1;have e:x.name=s:=toList_inj (beq_iff_eq.mp he);rw[<- e];exact h1.1
theorem jsd(hr:rs.all U5=true)(e:TX):(X9 e=true/\Xt rs e=true)↔vac rs e=true:=by
 unfold X9 Xt vac erB Uk;cases he:e.Tw.toList.isEmpty
 .cases hh:hasB rs e.Tw
  .simp
  .have hn:=jw0 hr hh
   rw[hn];simp only[UM,decide_eq_true_eq,Bool.or_eq_true,Bool.false_eq_true,if_false,false_or,true_and,and_true];constructor
   .rintro⟨a,b,c,d,f,g,h⟩
    exact⟨c,⟨a,b⟩,Q,d,⟨f,g⟩,h⟩
   .rintro⟨c,⟨a,b⟩,_,d,⟨f,g⟩,h⟩
    exact⟨a,b,c,d,f,g,h⟩
 .simp only[UM,decide_eq_true_eq,Bool.or_eq_true,if_true,true_or,true_and,and_true]
  constructor
  .rintro⟨a,b,c,d,f,g,h⟩
   exact⟨⟨a,b⟩,c,d,⟨f,g⟩,h⟩
  .rintro⟨⟨a,b⟩,c,d,⟨f,g⟩,h⟩
   exact⟨a,b,c,d,f,g,h⟩
structure vav(rs:List Ud)(es:List TX)(k:Nat)(e:TX):Prop where
 era:vac rs e=true
 up:∀j p,k=j+1->es[j]? =some p->p.Ua<e.Ua
 last:e.Ua=253402300799↔k+1=es.length
 of:k+1=es.length->e.of.toList=[119]
structure vbb(rs:List Ud)(z:UE):Prop where
 name:U6 z.name=true
 len:1<=z.TR.length/\z.TR.length<=8
 steps:∀k e,z.TR[k]? =some e->vav rs z.TR k e
theorem j2z(h:Y0 es=true){i:Nat}{x y:TX}(hx:es[i]? =some x)(hy:es[i+1]? =some y):x.Ua<y.Ua:=by
 by_cases hn:x.Ua<y.Ua
 .exact hn
 .rw[j20 hx hy hn]at h;cases h
theorem jt3{e:TX}(h:vac rs e=true):e.Ua<=253402300799:=by
 unfold vac Uk at h;simp only[UM,decide_eq_true_eq]at h;exact h.2.2.2.2.1.2
theorem jhu(hr:rs.all U5=true)(z:UE):(VE z=true/\z.TR.all (Xt rs)=true)↔vbb rs z:=by
 obtain⟨nm,es⟩:=z;unfold VE;simp only[UM,decide_eq_true_eq];constructor
 .rintro⟨⟨h1,h2,h3,h4,h5⟩,h6⟩
  have hE:∀k e,es[k]? =some e->vac rs e=true:=λk e hk=>(jsd hr e).mp ⟨List.all_eq_true.mp h3 e (UH hk),List.all_eq_true.mp h6 e (UH hk)⟩
  have hla:∀k e,es[k]? =some e->k+1=es.length->e.Ua=253402300799/\e.of.toList=[119]:=by
   intro k e hk hl;unfold va3 at h5;rw[show es.length-1=k by omega,hk]at h5;simp only[UM,beq_iff_eq]at h5;exact h5
  refine⟨h1,h2,λk e hk=>⟨hE k e hk,?_,⟨λhu=>?_,λhl=>(hla k e hk hl).1⟩,λhl=>(hla k e hk hl).2⟩⟩
  .rintro j p rfl hp
   exact j2z h4 hp hk
  .have eY:k<es.length:=(Ux hk).1
   by_cases hl:k+1=es.length
   .exact hl
   .obtain⟨y,hy⟩:∃y,es[k+1]? =some y:=⟨_,Ug Q⟩
    have:=j2z h4 hk hy;have:=jt3 (hE _ y hy);omega
 .rintro⟨h1,h2,hs⟩
  simp only at h1 h2 hs;have hE:∀e∈es,X9 e=true/\Xt rs e=true:=λe he=>by
   have⟨k,hk⟩:=Wq he;exact(jsd hr e).mpr (hs k e hk).era
  refine⟨⟨h1,h2,List.all_eq_true.mpr λe he=>(hE e he).1,j0u λi x y hx hy=>(hs _ y hy).up i x rfl hx,?_⟩,List.all_eq_true.mpr λe he=>(hE e he).2⟩;obtain⟨y,hy⟩:∃y,es[es.length-1]? =some y:=⟨_,Ug Q⟩;have hS:=hs _ y hy;unfold va3;rw[hy];simp only[UM,beq_iff_eq];exact⟨hS.last.mpr Q,hS.of Q⟩
def jvb(rs:List Ud)(es:List TX)(k:Nat)(e:TX):Bool:=
 vac rs e&&((k==0) || (match es[k-1]? with|some p=>decide (p.Ua<e.Ua)|none=>true))&&(decide (e.Ua=253402300799)==decide (k+1=es.length))&&(!decide (k+1=es.length) || e.of.toList==[119])
theorem vez{e:TX}:jvb rs es k e=true↔vav rs es k e:=by
 unfold jvb;simp only[UM,Bool.or_eq_true,beq_iff_eq,Bool.not_eq_true',decide_eq_false_iff_not,decide_eq_decide];constructor
 .rintro⟨⟨⟨h1,h2⟩,h3⟩,h4⟩
  refine⟨h1,?_,h3,?_⟩
  .rintro j p rfl hp
   rcases h2 with h2|h2
   .omega
   .rw[show j+1-1=j by omega,hp]at h2
    exact VH h2
  .intro hk
   rcases h4 with h4|h4
   .exact absurd hk h4
   .exact h4
 .rintro⟨h1,h2,h3,h4⟩
  refine⟨⟨⟨h1,?_⟩,h3⟩,?_⟩
  .by_cases hk:k=0
   .exact .inl hk
   .refine .inr ?_
    cases hp:es[k-1]? with
    |none=>rfl
    |some p=>exact Uy (h2 (k-1) p Q hp)
  .by_cases hk:k+1=es.length
   .exact .inr (h4 hk)
   .exact .inl hk
def XT(rs:List Ud)(z:UE):Bool:=
 U6 z.name&&decide (1<=z.TR.length/\z.TR.length<=8)&&(List.range z.TR.length).all λk=>match z.TR[k]? with|some e=>jvb rs z.TR k e|none=>true
theorem vdd:XT rs z=true↔vbb rs z:=by
 unfold XT;simp only[UM,decide_eq_true_eq,List.all_eq_true,List.mem_range];constructor
 .rintro⟨⟨h1,h2⟩,h3⟩
  refine⟨h1,h2,λk e hk=>?_⟩;have:=h3 k (Ux hk).1;rw[hk]at this;exact vez.mp this
 .rintro⟨h1,h2,h3⟩
  refine⟨⟨h1,h2⟩,λk hk=>?_⟩;cases he:z.TR[k]? with
  |none=>rfl
  |some e=>exact vez.mpr (h3 k e he)
theorem jhn(h:¬vbb rs z):XT rs z=false:=by
 cases hb:XT rs z
 .rfl
 .exact absurd (vdd.mp hb) h
theorem jmv(h:vbb rs z):XT rs z=true:=vdd.mpr h
theorem j3r(hz:∀z∈zs,U6 z.name=true)(h:Xk zs s=true):U6 s=true:=by
 unfold Xk at h;have⟨x,hx,he⟩:=List.any_eq_true.mp h;rw[<- toList_inj (beq_iff_eq.mp he)];exact hz x hx
theorem jth{ls:List UO}(hz:∀z∈zs,U6 z.name=true):(ls.all Yn=true/\(ls.all λx=>Xk zs x.UQ)=true)↔∀x∈ls,U6 x.name=true/\Xk zs x.UQ=true:=by
 simp only[List.all_eq_true];unfold Yn;simp only[UM];constructor
 .rintro⟨h1,h2⟩ x hx
  exact⟨(h1 x hx).2,h2 x hx⟩
 .intro h
  exact⟨λx hx=>⟨j3r hz (h x hx).2,(h x hx).1⟩,λx hx=>(h x hx).2⟩
theorem jkj(hr:rs.all U5=true):(zs.all VE=true/\(zs.all λz=>z.TR.all (Xt rs))=true)↔∀z∈zs,vbb rs z:=by
 simp only[List.all_eq_true (l:=zs)];exact⟨λh z hz=>(jhu hr z).mp ⟨h.1 z hz,h.2 z hz⟩,λh=>⟨λz hz=>((jhu hr z).mpr (h z hz)).1,λz hz=>((jhu hr z).mpr (h z hz)).2⟩⟩
theorem jm8(r:Un)(v:Value)(z:UE)(u:Value)(w:World)(hv:Zd w v r)(hu:Jf w u z.TR)(ok:z.ok)(hl:r.Tw.length<=1048576):
  C 56 #[v,.agg #[I z.name,u]] w λe w'=>e=V (Z (XT r.Tw z))/\Bw w w':=by
 obtain⟨a,cap,rfl,hA⟩:=hu;have⟨m1,m2,m3⟩:=ok;unfold maxLen at m2;have h1:=λw=>jbu z.name w m1
 have⟨ra,rb,rc,ca,cb,cc,jH,_,_,_⟩:=hv.form;have ag:=λo o2=>(TK w o).alloc M o2
 generalize r.TC.length=zn at *;generalize r.TG.length=kn at *;generalize GY:r.Tw.length=rn at *;subst jH;cases hn:U6 z.name
 .rw[jhn λh=>by have:=h.name;rw[hn]at this;cases this]
  rw[hn]at h1;clear hn;delta C;go_in;go_wp2_with fail;refine(h1 _).mono ?_;rintro e w' ⟨rfl,rfl⟩;go_wp2;go_ret;exact⟨rfl,ag _ _⟩
 rw[hn]at h1;by_cases rv:z.TR.length<1
 .rw[jhn λh=>by have:=h.len;omega]
  delta C;go_in;go_wp2_with fail;refine(h1 _).mono ?_;rintro e w' ⟨rfl,rfl⟩;go_wp2;go_ret;exact⟨rfl,ag _ _⟩
 by_cases G3:8<z.TR.length
 .rw[jhn λh=>by have:=h.len;omega]
  delta C;go_in;go_wp2_with fail;refine(h1 _).mono ?_;rintro e w' ⟨rfl,rfl⟩;go_wp2;go_ret;exact⟨rfl,ag _ _⟩
 have HZ:Hid ((∀k e,z.TR[k]? =some e->vav r.Tw z.TR k e)->XT r.Tw z=true):=λh=>jmv ⟨hn,Q,h⟩
 have HN:Hid (∀k e,z.TR[k]? =some e->¬vav r.Tw z.TR k e->XT r.Tw z=false):=λk e hk h=>jhn λhz=>h (hz.steps k e hk)
 clear hn;generalize XT r.Tw z=zb at *;obtain⟨nm,es⟩:=z;simp only at *;delta C;go_in;go_wp2_with fail;refine(h1 _).mono ?_;rintro e w' ⟨rfl,rfl⟩;clear h1;go_wp2;have bQ:=ag (G #[U ra rn ca,U rb zn cb,U rc kn cc] 27) (G #[I nm,U a es.length cap] 121);clear ag;have eL:=hA.below bQ;have ej:=hv.below bQ;obtain⟨x0,x1,x2,x3⟩:(λz:World=>z.cell? (O w.heap.size 0)=some (U ra rn ca)/\z.cell? (O w.heap.size 1)=some (U rb zn cb)/\z.cell? (O w.heap.size 2)=some (U rc kn cc)/\z.cell? (O (w.heap.size+1) 1)=some (U a es.length cap)) ((w.alloc (G #[U ra rn ca,U rb zn cb,U rc kn cc] 27)).alloc (G #[I nm,U a es.length cap] 121)):=Z8;generalize hW:((w.alloc (G #[U ra rn ca,U rb zn cb,U rc kn cc] 27)).alloc (G #[I nm,U a es.length cap] 121))=W at *;go_loopw [6] (λi wr=>∃k:Nat,k<=es.length/\i=J k/\Hid (∀j,j<k->∀x,es[j]? =some x->vav r.Tw es j x)/\Bw W wr) (λi _=>es.length-(intOf i).toNat)
 .exact⟨0,Q,rfl,λj hj=>Q,by subst hW;exact Ui _ _⟩
 ·
  obtain⟨k,hk,rfl,ak,hB⟩:=hrel;by_cases hlt:k<es.length
  .obtain ⟨x,hx⟩:=Vb hlt
   have vV:=m3 x (UH hx);have fu:Bw W (wr.alloc (G #[J x.TI,I x.Tw,J x.TF,I x.Uz,J x.Ua,I x.of] 159)):=hB.alloc hB.size _;obtain⟨b,o,rfl,hc⟩:=(eL.below hB).at (i:=k) (r:=x.cs) (by rw[Uv,hx];rfl);have c0:wr.cell? (O b (o+k*6))=some (J x.TI):=hc 0 _ rfl;have c1:=hc 1 _ rfl;have c2:=hc 2 _ rfl;have c3:=hc 3 _ rfl;have c4:=hc 4 _ rfl;have c5:=hc 5 _ rfl;clear hc;have y3:wr.cell? (O (w.heap.size+1) 1)=some (U (some (O b o)) es.length cap):=by rw[(Uq hB).1 _ _ (TV x3)];exact x3
   have k0:=cell_regrown ((Uq fu).1 _ _ (TV x0) |>.trans x0);have k1:=cell_regrown ((Uq fu).1 _ _ (TV x1) |>.trans x1);have k2:=cell_regrown ((Uq fu).1 _ _ (TV x2) |>.trans x2);have k3:=cell_regrown ((Uq fu).1 _ _ (TV x3) |>.trans x3);have e0:=cell_regrown (w:=wr.alloc (G #[J x.TI,I x.Tw,J x.TF,I x.Uz,J x.Ua,I x.of] 159)) (show _=some (J x.TI)from by first|(simp;done)|simp[go_sem]:(wr.alloc (G #[J x.TI,I x.Tw,J x.TF,I x.Uz,J x.Ua,I x.of] 159)).cell? (O wr.heap.size 0)=_);have e1:=cell_regrown (w:=wr.alloc (G #[J x.TI,I x.Tw,J x.TF,I x.Uz,J x.Ua,I x.of] 159)) (show _=some (I x.Tw)from by first|(simp;done)|simp[go_sem]:(wr.alloc (G #[J x.TI,I x.Tw,J x.TF,I x.Uz,J x.Ua,I x.of] 159)).cell? (O wr.heap.size 1)=_);have e2:=cell_regrown (w:=wr.alloc (G #[J x.TI,I x.Tw,J x.TF,I x.Uz,J x.Ua,I x.of] 159)) (show _=some (J x.TF)from by first|(simp;done)|simp[go_sem]:(wr.alloc (G #[J x.TI,I x.Tw,J x.TF,I x.Uz,J x.Ua,I x.of] 159)).cell? (O wr.heap.size 2)=_);have e3:=cell_regrown (w:=wr.alloc (G #[J x.TI,I x.Tw,J x.TF,I x.Uz,J x.Ua,I x.of] 159)) (show _=some (I x.Uz)from by first|(simp;done)|simp[go_sem]:(wr.alloc (G #[J x.TI,I x.Tw,J x.TF,I x.Uz,J x.Ua,I x.of] 159)).cell? (O wr.heap.size 3)=_);have e4:=cell_regrown (w:=wr.alloc (G #[J x.TI,I x.Tw,J x.TF,I x.Uz,J x.Ua,I x.of] 159)) (show _=some (J x.Ua)from by first|(simp;done)|simp[go_sem]:(wr.alloc (G #[J x.TI,I x.Tw,J x.TF,I x.Uz,J x.Ua,I x.of] 159)).cell? (O wr.heap.size 4)=_);have e5:=cell_regrown (w:=wr.alloc (G #[J x.TI,I x.Tw,J x.TF,I x.Uz,J x.Ua,I x.of] 159)) (show _=some (I x.of)from by first|(simp;done)|simp[go_sem]:(wr.alloc (G #[J x.TI,I x.Tw,J x.TF,I x.Uz,J x.Ua,I x.of] 159)).cell? (O wr.heap.size 5)=_);have cE:∀dd os,C _ _ (grow (redrawn (wr.alloc (G #[J x.TI,I x.Tw,J x.TF,I x.Uz,J x.Ua,I x.of] 159)) dd) os) λe cW=>e=V (Z (vac r.Tw x))/\∃p:Regrown,cW=grow (redrawn (wr.alloc (G #[J x.TI,I x.Tw,J x.TF,I x.Uz,J x.Ua,I x.of] 159)) p.d) p.os:=λdd os=>Calls.regrown_of (jpr r _ x _ ((ej.below fu).below (below_regrown _ dd os)) vV Q)
   unfold TX.v at cE;go_wp2_with fail;generalize hV:(wr.alloc (G #[J x.TI,I x.Tw,J x.TF,I x.Uz,J x.Ua,I x.of] 159))=Tu at *;generalize wr.heap.size=g at *;clear c0 c1 c2 c3 c4 c5 y3;have HX:Hid (∀d o,Bw w (grow (redrawn Tu d) o)):=λd o=>bQ.trans ((fu.trans ((below_regrown Tu d o).mono fu.size)).mono bQ.size)
   cases hbe:vac r.Tw x
   .rw[hbe]at cE
    have HR:Hid (zb=false):=HN.out k x hx λh=>by have:=h.era;rw[hbe]at this;cases this
    clear HZ HN;refine wp_region_quiet_below Z4 Z4 ?_
    repeat (first|go_big_quiet_step ((go_at_call 98;exact cE _ _))|quiet_step ((go_at_call 98;exact cE _ _)))
    refine wpQuiet_nil ?_;rintro _ ⟨⟨dq,aQ⟩,rfl⟩;go_wp2;go_ret;exact⟨TS HR.out.symm,HX.out dq aQ⟩
   .rw[hbe]at cE
    by_cases Cd:k=0
    .have hk1:decide ((0:Int)<(k:Int))=false:=Z6
     have oC:decide (0<k)=false:=Z6;have fy:=hid Cd;clear Cd;by_cases g1:Hid (x.Ua=253402300799)
     .have Ax:(x.Ua==253402300799)=true:=by simpa using g1.out
      by_cases g2:Hid (k+1=es.length)
      .have ke:((((k:Nat):Int))==((es.length:Int)-1))=true:=by have:=g2.out;simp;omega
       cases g3:(x.of.toList==[119])
       .have g4:Hid (x.of.toList≠[119]):=by simp only[Hid];simpa using g3
        have HR:Hid (zb=false):=HN.out (k) x hx λh=>by exact g4.out (h.of g2.out)
        clear HZ HN ak;refine wp_region_quiet_below Z4 Z4 ?_
        repeat (first|go_big_quiet_step ((go_at_call 98;exact cE _ _))|quiet_step ((go_at_call 98;exact cE _ _)))
        refine wpQuiet_nil ?_;rintro _ ⟨⟨dq,aQ⟩,rfl⟩;go_wp2;go_ret;exact⟨TS HR.out.symm,HX.out dq aQ⟩
       .have g4:Hid (x.of.toList=[119]):=by simp only[Hid];simpa using g3
        have HR:Hid (∀i,i<k+1->∀y,es[i]? =some y->vav r.Tw es i y):=λi hi y hy=>by
         by_cases e:i=k
         .subst e;rw[hx]at hy;obtain rfl:=Uw hy;exact⟨hbe,λj p hj _=>by have:=fy.out;omega,⟨λ_=>g2.out,λ_=>g1.out⟩,λ_=>g4.out⟩
         .exact ak.out i Q y hy
        clear HZ HN ak;refine wp_region_quiet_below Z4 Z4 ?_
        repeat (first|go_big_quiet_step ((go_at_call 98;exact cE _ _))|quiet_step ((go_at_call 98;exact cE _ _)))
        refine wpQuiet_nil ?_;rintro _ ⟨⟨dq,aQ⟩,rfl⟩;have ac:=below_regrown Tu dq aQ;go_wp2;go_roundw
        .exact⟨k+1,Q,Z7,HR,(TJ fu ac)⟩
        .simp[intOf];omega
      .have ke:((((k:Nat):Int))==((es.length:Int)-1))=false:=by have tI:¬(k+1=es.length):=λh=>g2 h;simp;omega
       have HR:Hid (zb=false):=HN.out (k) x hx λh=>by exact g2 (h.last.mp g1.out)
       clear HZ HN ak;refine wp_region_quiet_below Z4 Z4 ?_
       repeat (first|go_big_quiet_step ((go_at_call 98;exact cE _ _))|quiet_step ((go_at_call 98;exact cE _ _)))
       refine wpQuiet_nil ?_;rintro _ ⟨⟨dq,aQ⟩,rfl⟩;go_wp2;go_ret;exact⟨TS HR.out.symm,HX.out dq aQ⟩
     .have Ax:(x.Ua==253402300799)=false:=by simp;exact λh=>g1 h
      by_cases g2:Hid (k+1=es.length)
      .have ke:((((k:Nat):Int))==((es.length:Int)-1))=true:=by have:=g2.out;simp;omega
       have HR:Hid (zb=false):=HN.out (k) x hx λh=>by exact g1 (h.last.mpr g2.out)
       clear HZ HN ak;refine wp_region_quiet_below Z4 Z4 ?_
       repeat (first|go_big_quiet_step ((go_at_call 98;exact cE _ _))|quiet_step ((go_at_call 98;exact cE _ _)))
       refine wpQuiet_nil ?_;rintro _ ⟨⟨dq,aQ⟩,rfl⟩;go_wp2;go_ret;exact⟨TS HR.out.symm,HX.out dq aQ⟩
      .have ke:((((k:Nat):Int))==((es.length:Int)-1))=false:=by have tI:¬(k+1=es.length):=λh=>g2 h;simp;omega
       have HR:Hid (∀i,i<k+1->∀y,es[i]? =some y->vav r.Tw es i y):=λi hi y hy=>by
        by_cases e:i=k
        .subst e;rw[hx]at hy;obtain rfl:=Uw hy;exact⟨hbe,λj p hj _=>by have:=fy.out;omega,⟨λh=>absurd h g1,λh=>absurd h g2⟩,λh=>absurd h g2⟩
        .exact ak.out i Q y hy
       clear HZ HN ak;refine wp_region_quiet_below Z4 Z4 ?_
       repeat (first|go_big_quiet_step ((go_at_call 98;exact cE _ _))|quiet_step ((go_at_call 98;exact cE _ _)))
       refine wpQuiet_nil ?_;rintro _ ⟨⟨dq,aQ⟩,rfl⟩;have ac:=below_regrown Tu dq aQ;go_wp2;go_roundw
       .exact⟨k+1,Q,Z7,HR,(TJ fu ac)⟩
       .simp[intOf];omega
    .obtain⟨j,rfl⟩:∃j,k=j+1:=⟨k-1,Q⟩
     obtain⟨q,hq⟩:∃q,es[j]? =some q:=⟨_,Ug Q⟩;have⟨b',o',he,hd⟩:=(eL.below fu).at (i:=j) (r:=q.cs) (by rw[Uv,hq];rfl);injection he with he
     injection he with u1 u2
     subst u1 u2;have p4:=cell_regrown (hd 4 _ rfl);clear hd;by_cases hu:q.Ua<x.Ua
     .have KJ:decide (x.Ua<=q.Ua)=false:=by simpa using hu
      by_cases g1:Hid (x.Ua=253402300799)
      .have Ax:(x.Ua==253402300799)=true:=by simpa using g1.out
       by_cases g2:Hid (j+1+1=es.length)
       .have ke:((((j+1:Nat):Int))==((es.length:Int)-1))=true:=by have:=g2.out;simp;omega
        have g5:(((j:Int)+1)==((es.length:Int)-1))=true:=by have:=g2.out;simp;omega
        cases g3:(x.of.toList==[119])
        .have g4:Hid (x.of.toList≠[119]):=by simp only[Hid];simpa using g3
         have HR:Hid (zb=false):=HN.out (j+1) x hx λh=>by exact g4.out (h.of g2.out)
         clear HZ HN ak;refine wp_region_quiet_below Z4 Z4 ?_
         repeat (first|go_big_quiet_step ((go_at_call 98;exact cE _ _))|quiet_step ((go_at_call 98;exact cE _ _)))
         refine wpQuiet_nil ?_;rintro _ ⟨⟨dq,aQ⟩,rfl⟩;go_wp2;go_ret;exact⟨TS HR.out.symm,HX.out dq aQ⟩
        .have g4:Hid (x.of.toList=[119]):=by simp only[Hid];simpa using g3
         have HR:Hid (∀i,i<j+1+1->∀y,es[i]? =some y->vav r.Tw es i y):=λi hi y hy=>by
          by_cases e:i=j+1
          .subst e;rw[hx]at hy;obtain rfl:=Uw hy;exact⟨hbe,λi p hi hp=>by obtain rfl:i=j:=Q;rw[hq]at hp;obtain rfl:=Uw hp;exact hu,⟨λ_=>g2.out,λ_=>g1.out⟩,λ_=>g4.out⟩
          .exact ak.out i Q y hy
         clear HZ HN ak;refine wp_region_quiet_below Z4 Z4 ?_
         repeat (first|go_big_quiet_step ((go_at_call 98;exact cE _ _))|quiet_step ((go_at_call 98;exact cE _ _)))
         refine wpQuiet_nil ?_;rintro _ ⟨⟨dq,aQ⟩,rfl⟩;have ac:=below_regrown Tu dq aQ;go_wp2;go_roundw
         .exact⟨j+1+1,Q,Z7,HR,(TJ fu ac)⟩
         .simp[intOf];omega
       .have ke:((((j+1:Nat):Int))==((es.length:Int)-1))=false:=by have tI:¬(j+1+1=es.length):=λh=>g2 h;simp;omega
        have g5:(((j:Int)+1)==((es.length:Int)-1))=false:=by have tI:¬(j+1+1=es.length):=λh=>g2 h;simp;omega
        have HR:Hid (zb=false):=HN.out (j+1) x hx λh=>by exact g2 (h.last.mp g1.out)
        clear HZ HN ak;refine wp_region_quiet_below Z4 Z4 ?_
        repeat (first|go_big_quiet_step ((go_at_call 98;exact cE _ _))|quiet_step ((go_at_call 98;exact cE _ _)))
        refine wpQuiet_nil ?_;rintro _ ⟨⟨dq,aQ⟩,rfl⟩;go_wp2;go_ret;exact⟨TS HR.out.symm,HX.out dq aQ⟩
      .have Ax:(x.Ua==253402300799)=false:=by simp;exact λh=>g1 h
       by_cases g2:Hid (j+1+1=es.length)
       .have ke:((((j+1:Nat):Int))==((es.length:Int)-1))=true:=by have:=g2.out;simp;omega
        have g5:(((j:Int)+1)==((es.length:Int)-1))=true:=by have:=g2.out;simp;omega
        have HR:Hid (zb=false):=HN.out (j+1) x hx λh=>by exact g1 (h.last.mpr g2.out)
        clear HZ HN ak;refine wp_region_quiet_below Z4 Z4 ?_
        repeat (first|go_big_quiet_step ((go_at_call 98;exact cE _ _))|quiet_step ((go_at_call 98;exact cE _ _)))
        refine wpQuiet_nil ?_;rintro _ ⟨⟨dq,aQ⟩,rfl⟩;go_wp2;go_ret;exact⟨TS HR.out.symm,HX.out dq aQ⟩
       .have ke:((((j+1:Nat):Int))==((es.length:Int)-1))=false:=by have tI:¬(j+1+1=es.length):=λh=>g2 h;simp;omega
        have g5:(((j:Int)+1)==((es.length:Int)-1))=false:=by have tI:¬(j+1+1=es.length):=λh=>g2 h;simp;omega
        have HR:Hid (∀i,i<j+1+1->∀y,es[i]? =some y->vav r.Tw es i y):=λi hi y hy=>by
         by_cases e:i=j+1
         .subst e;rw[hx]at hy;obtain rfl:=Uw hy;exact⟨hbe,λi p hi hp=>by obtain rfl:i=j:=Q;rw[hq]at hp;obtain rfl:=Uw hp;exact hu,⟨λh=>absurd h g1,λh=>absurd h g2⟩,λh=>absurd h g2⟩
         .exact ak.out i Q y hy
        clear HZ HN ak;refine wp_region_quiet_below Z4 Z4 ?_
        repeat (first|go_big_quiet_step ((go_at_call 98;exact cE _ _))|quiet_step ((go_at_call 98;exact cE _ _)))
        refine wpQuiet_nil ?_;rintro _ ⟨⟨dq,aQ⟩,rfl⟩;have ac:=below_regrown Tu dq aQ;go_wp2;go_roundw
        .exact⟨j+1+1,Q,Z7,HR,(TJ fu ac)⟩
        .simp[intOf];omega
     .have KJ:decide (x.Ua<=q.Ua)=true:=by simpa using hu
      have HR:Hid (zb=false):=HN.out (j+1) x hx λh=>by exact hu (h.up j q rfl hq)
      clear HZ HN ak;refine wp_region_quiet_below Z4 Z4 ?_
      repeat (first|go_big_quiet_step ((go_at_call 98;exact cE _ _))|quiet_step ((go_at_call 98;exact cE _ _)))
      refine wpQuiet_nil ?_;rintro _ ⟨⟨dq,aQ⟩,rfl⟩;go_wp2;go_ret;exact⟨TS HR.out.symm,HX.out dq aQ⟩
  .have e:k=es.length:=Q
   subst e;have HR:Hid (zb=true):=HZ.out λj y hy=>ak.out j (Ux hy).1 y hy
   go_wp2;go_ret;exact⟨TS HR.out.symm,bQ.trans (hB.mono bQ.size)⟩
theorem jq3{α:Type}[DecidableEq α][Inhabited α](zs:List α):(Lib.compact zs).length=zs.length↔∀j,j<zs.length->Lib.keeps zs.toArray j=true:=by
 unfold Lib.compact Lib.compactUpTo;rw[U7];have h:=List.length_filter_eq_length_iff (p:=Lib.keeps zs.toArray) (l:=List.range zs.length);rw[List.length_range]at h;rw[h];exact⟨λh j hj=>h j (List.mem_range.mpr hj),λh j hj=>h j (List.mem_range.mp hj)⟩
theorem joc{α:Type}[DecidableEq α][Inhabited α](zs:List α)(j:Nat)(hj:j<zs.length):Lib.keeps zs.toArray j=true↔(j=0\/zs[j]? ≠zs[j-1]?):=by
 unfold Lib.keeps;rw[decide_eq_true_iff];have e:∀i,i<zs.length->zs.toArray[i]! =zs[i]! :=λi hi=>by simp[hi]
 rw[e j hj,e (j-1) Q];have e2:∀i (hi:i<zs.length),zs[i]! =zs[i]:=λi hi=>by simp[hi]
 rw[e2 j hj,e2 (j-1) Q,Ug hj,Ug (show j-1<zs.length by omega)];simp
theorem jii{l:List (List UInt8)}(hs:l.Pairwise (· <= ·)):(∀j,j<l.length->(j=0\/l[j]? ≠l[j-1]?))↔l.Nodup:=by
 constructor
 .intro h
  rw[List.nodup_iff_pairwise_ne,List.pairwise_iff_getElem];intro i j hi hj eF he;rw[List.pairwise_iff_getElem]at hs;have h1:l[i]<=l[i+1]:=hs i (i+1) hi Q Q;have h2:l[i+1]<=l[j]:=by
   by_cases e:i+1=j
   .subst e;exact List.le_refl _
   .exact hs (i+1) j Q hj Q
  rw[<- he]at h2;have e3:l[i+1]=l[i]:=List.le_antisymm h2 h1;rcases h (i+1) (by omega)with h4|h4
  .omega
  .apply h4
   rw[show i+1-1=i by omega,Ug (show i+1<l.length by omega),Ug hi,e3]
 .intro h j hj
  by_cases e:j=0
  .exact .inl e
  .right
   rw[Ug hj,Ug (show j-1<l.length by omega)];intro he;rw[List.nodup_iff_pairwise_ne,List.pairwise_iff_getElem]at h;exact h (j-1) j Q hj Q (Uw he).symm
theorem jlx(l:List (List UInt8)):(l.mergeSort λx y=>decide (x<=y)).Pairwise (· <= ·):=by
 have:=List.pairwise_mergeSort (le:=fun(x y:List UInt8)=>decide (x<=y)) (λa b c h1 h2=>by
  simp at h1 h2 ⊢;exact List.le_trans h1 h2) (λa b=>by
  simp only[Bool.or_eq_true,decide_eq_true_eq];exact List.le_total a b) l
 exact this.imp λh=>by simpa using h
theorem jmo(l:List (List UInt8)):((Lib.compact (l.mergeSort λx y=>decide (x<=y))).length=l.length)↔l.Nodup:=by
 have hl:(l.mergeSort λx y=>decide (x<=y)).length=l.length:=List.length_mergeSort l;rw[<- hl,jq3];have hp:=List.mergeSort_perm l (λx y=>decide (x<=y));rw[<- hp.nodup_iff, <- jii (jlx l)];exact⟨λh j hj=>(joc _ j hj).mp (h j hj),λh j hj=>(joc _ j hj).mpr (h j hj)⟩
theorem jij(l:List (List UInt8)):(∀(k:Nat) x,l[k]? =some x->¬x∈l.take k)↔l.Nodup:=by
 rw[List.nodup_iff_pairwise_ne,List.pairwise_iff_getElem];constructor
 .intro h i j hi hj eF he
  refine h j l[j] (Ug hj) ?_;rw[<- he];exact List.mem_take_iff_getElem.mpr ⟨i,Q,rfl⟩
 .intro h k x hk hm
  obtain⟨hk1,rfl⟩:=Ux hk;have⟨i,hi,he⟩:=List.mem_take_iff_getElem.mp hm;exact h i k Q hk1 Q he
def jgx(r:Un):List ByteArray:=r.TC.map UE.name++r.TG.map UO.name
def ZP(l:List ByteArray):List (List UInt8):=l.map (·.data.toList)
def jew(r:Un):Bool:=decide (ZP (jgx r)).Nodup
theorem jwn:∃i:TypeInfo,Tryz.prog.info? 9=some i/\i.zero=some (ZV)/\i.size=1/\i.bytes=16:=⟨_,rfl,rfl,rfl,rfl⟩
theorem js4(w:World)(t:TypeId):(w.alloc (G #[] t)).ownsRow w.heap.size t 1 (U (some (O w.heap.size 0)) 0 0) 0 []:=
 ⟨rfl,.inr ⟨w.heap.size,0,#[],rfl,TP _,(MapKept.heap_alloc w _).1,TP _,by unfold maxLen;omega,rfl,rfl⟩⟩
theorem jy8(w:World)(base:Nat)(t:TypeId):w.ownsRow base t 1 nS 0 []:=⟨rfl,.inl ⟨rfl,rfl⟩⟩
theorem jho(h:w.ownsRow base e size v n xs):∀k,v.ownBlock=some k->base<=k:=by
 intro k hk;rcases h.2 with⟨rfl,_⟩|⟨g,cap,cur,rfl,hg,_⟩
 .cases hk
 .simp[Value.ownBlock]at hk;omega
theorem jeh{l:List ByteArray}(h:l[k]? =some x):(l.take (k+1)).map Value.string=(l.take k).map Value.string++[I x]:=by
 rw[List.take_add_one,h];simp
theorem jhe(r:Un)(v:Value)(w:World)(hv:Zd w v r)(hz:r.TC.length<=1048576)(hl:r.TG.length<=1048576):
  C 123 #[v] w λe w'=>e=V (Z (jew r))/\Bw w w':=by
 obtain⟨a,b,c,ca,cb,cc,rfl,_,hZ,hA⟩:=hv.form;have⟨i0,hi,aG,aH,aF⟩:=jwn;clear hv;have HB:Hid (jew r=decide (ZP (r.TC.map UE.name++r.TG.map UO.name)).Nodup):=rfl;generalize jew r=nb at *;generalize r.Tw.length=rn at *;generalize r.TG=l at *;generalize r.TC=zs at *;have ag:=TK w (G #[U a rn ca,U b zs.length cb,U c l.length cc] 27);have eL:=hA.below ag;have j8:=hZ.below ag;have ai:(w.alloc (G #[U a rn ca,U b zs.length cb,U c l.length cc] 27)).cell? (O w.heap.size 2)=some (U c l.length cc):=M;delta C;go_in;go_wp2;generalize hW:(w.alloc (G #[U a rn ca,U b zs.length cb,U c l.length cc] 27))=W at *;go_loopw [3,12] (λs i wr=>∃k:Nat,k<=zs.length/\i=J k/\wr.ownsRow W.heap.size 9 1 s k (((zs.map UE.name).take k).map Value.string)/\Bw W wr) (λ_ i _=>zs.length-(intOf i).toNat)
 .exact⟨0,Q,rfl,jy8 _ _ _,by subst hW;exact Ui _ _⟩
 ·
  obtain⟨k,hk,rfl,hO,hB⟩:=hrel;by_cases hlt:k<zs.length
  .have⟨x,hx⟩:=Vb hlt
   obtain⟨b',o,rfl,c0,v,c1,hv⟩:=(j8.below hB).at hx;have hs:=jeh (l:=zs.map UE.name) (k:=k) (x:=x.name) (by rw[Uv,hx];rfl);have HS:=hid hs;obtain⟨ae,ce,rfl,_⟩:=hv;clear hs;have hsz:=hB.size;generalize ((zs.map UE.name).take k).map Value.string=xs at *
   go_wp2_with (first
    |(at_builtin;refine wpList_append_own _ rfl _ _ 59 rfl W.heap.size 9 i0 (.string ⟨#[]⟩) 1 16 Tryz.underlying59 hi aG aH aF rfl Z5 _ _ _ rfl ((hO.alloc _).alloc _) ⟨wr.heap.size+1,0,none⟩ 1 1 [.string x.name] rfl rfl ?c1 ?c2 ?c3 ?c4 ?c5 ?_)
    |fail)
   case c1=>simp[go_sem]
   case c2=>intro u hu;simp at hu;subst hu;rfl
   case c3=>unfold maxLen;omega
   case c4=>omega
   case c5=>simp;omega
   .intro v' w1 ao af _
    have aj:Bw W w1:=((hB.alloc hsz _).alloc Z6 _).grown af Z6 (jho hO);clear af hO;go_wp2;go_roundw
    .exact⟨k+1,Q,Z7,by rw[HS.out];exact ao,aj⟩
    .simp[intOf];omega
  .have e:k=zs.length:=Q
   subst e;rw[List.take_of_length_le M]at hO;have y2:wr.cell? (O w.heap.size 2)=some (U c l.length cc):=by rw[(Uq hB).1 _ _ (TV ai)];exact ai
   go_wp2;obtain⟨wo,rfl⟩:=UL wr;go_loopw [3,25] (λs i wr=>∃k:Nat,k<=l.length/\i=J k/\wr.ownsRow W.heap.size 9 1 s (zs.length+k) ((zs.map UE.name++(l.map UO.name).take k).map Value.string)/\Bw W wr) (λ_ i _=>l.length-(intOf i).toNat)
   .exact⟨0,Q,rfl,by simpa using hO,hB⟩
   ·
    clear hO hB y2;obtain⟨m,hm,rfl,hO,hB⟩:=hrel;by_cases hlt2:m<l.length
    .have⟨x,hx⟩:=Vb hlt2
     obtain⟨b',o,rfl,hc⟩:=(eL.below hB).at (i:=m) (r:=x.cs) (by rw[Uv,hx];rfl);have c0:wr.cell? (O b' (o+m*2))=some (I x.UQ):=hc 0 _ rfl;have c1:=hc 1 _ rfl;clear hc;have hs:=jeh (l:=l.map UO.name) (k:=m) (x:=x.name) (by rw[Uv,hx];rfl);have HS:Hid ((zs.map UE.name++(l.map UO.name).take (m+1)).map Value.string=(zs.map UE.name++(l.map UO.name).take m).map Value.string++[I x.name]):=by
      simp only[Hid];rw[Vr,hs, <- List.append_assoc, <- Vr]
     clear hs;have hsz:=hB.size;generalize (zs.map UE.name++(l.map UO.name).take m).map Value.string=xs at *;obtain⟨n,hn⟩:∃n,n=zs.length+m:=⟨_,rfl⟩;have HN:Hid (zs.length+(m+1)=n+1):=by simp only[Hid];omega
     have gF:n<=2097152:=Q;rw[<- hn]at hO;clear hn
     go_wp2_with (first
      |(at_builtin;refine wpList_append_own _ rfl _ _ 59 rfl W.heap.size 9 i0 (.string ⟨#[]⟩) 1 16 Tryz.underlying59 hi aG aH aF rfl Z5 _ _ _ rfl ((hO.alloc _).alloc _) ⟨wr.heap.size+1,0,none⟩ 1 1 [.string x.name] rfl rfl ?c1 ?c2 ?c3 ?c4 ?c5 ?_)
      |fail)
     case c1=>simp[go_sem]
     case c2=>intro u hu;simp at hu;subst hu;rfl
     case c3=>unfold maxLen;omega
     case c4=>omega
     case c5=>simp;omega
     .intro v' w1 ao af _
      have aj:Bw W w1:=((hB.alloc hsz _).alloc Z6 _).grown af Z6 (jho hO);clear af hO;go_wp2;go_roundw
      .exact⟨m+1,Q,Z7,by rw[HS.out,HN.out];exact ao,aj⟩
      .simp[intOf];omega
    .have e:m=l.length:=Q
     subst e;rw[List.take_of_length_le M]at hO;obtain⟨n,hn⟩:∃n,n=zs.length+l.length:=⟨_,rfl⟩;have gF:n<=2097152:=Q;rw[<- hn]at hO;have au:(zs.map UE.name++l.map UO.name).length=n:=by simp[hn]
     generalize zs.map UE.name++l.map UO.name=ns at *;clear hn;have Bt:=hO;rw[<- Lib.map_encStr]at Bt;rcases hO.2 with⟨rfl,rfl⟩|⟨g,cap,cur,rfl,_,_,_,_,_,_⟩
     .have HR:Hid (nb=true):=by
       simp only[Hid];rw[HB.out,List.eq_nil_of_length_eq_zero au];rfl
      have hS:=λw=>Tryz.slices_Sort_string_none none 0 w
      have hC:=λw=>Tryz.slices_Compact_string_empty none 0 w
      go_wp2_with (first|(go_at_call 169;refine(hS _).mono ?_;rintro e w' ⟨rfl,rfl⟩)|(go_at_call 170;refine(hC _).mono ?_;rintro e w' ⟨rfl,rfl⟩));go_ret;exact⟨TS HR.out.symm,(TJ ag hB)⟩
     .have⟨g',fK,he,xT,mB,vo,qw,sP,hH⟩:=Lib.holds_of_ownsRow Bt M
      injection he with mD _ iI
      injection mD with mD
      injection mD with mD
      subst mD iI;have hS:=Tryz.slices_Sort_string g 0 cap (ns.map (·.data.toList)) wr hH mB Q;rw[sP]at hS;have iP:((ns.map (·.data.toList)).mergeSort λx y=>decide (x<=y)).length=n:=by rw[List.length_mergeSort];exact sP
      have hC:=λw' iZ=>Tryz.slices_Compact_string g 0 cap ((ns.map (·.data.toList)).mergeSort λx y=>decide (x<=y)) w' iZ Q Q
      have hK:=jmo (ns.map (·.data.toList));rw[sP]at hK;have JA:∀q os,Go.Sort.Holds encStr (Go.Sort.grow (Go.Sort.putRow encStr (Go.Sort.ahead wr q) g 0 ((ns.map (·.data.toList)).mergeSort λx y=>decide (x<=y)).toArray) os) g 0 ((ns.map (·.data.toList)).mergeSort λx y=>decide (x<=y)).toArray:=λq os=>
       Go.Sort.holds_grow _ _ _ _ _ _ (by simpa using mB) (Go.Sort.holds_putRow _ _ _ _ _ _ (Go.Sort.holds_ahead _ _ _ _ _ _ hH) M)
      rw[iP]at hC;have HR:Hid (nb=(((Lib.compact ((ns.map (·.data.toList)).mergeSort λx y=>decide (x<=y))).length:Int)==(n:Int))):=by
       simp only[Hid];rw[HB.out,Bool.eq_iff_iff];simp only[decide_eq_true_eq,beq_iff_eq,Int.natCast_inj];exact hK.symm
      have uQ:(Lib.compact ((ns.map (·.data.toList)).mergeSort λx y=>decide (x<=y))).length<=n:=by
       unfold Lib.compact Lib.compactUpTo;rw[U7];have:=List.length_filter_le (Lib.keeps ((ns.map (·.data.toList)).mergeSort λx y=>decide (x<=y)).toArray) (List.range ((ns.map (·.data.toList)).mergeSort λx y=>decide (x<=y)).length);rw[List.length_range]at this;exact Nat.le_trans this (Nat.le_of_eq iP)
      generalize (ns.map (·.data.toList)).mergeSort (λx y=>decide (x<=y))=so at *;generalize (Lib.compact so).length=cl at *;clear hO Bt hH hK HB iP sP au;go_wp2_with fail;refine hS.mono ?_;rintro e w2 ⟨rfl,q,os,rfl⟩;go_wp2_with fail;refine(hC _ (JA q os)).mono ?_;rintro e w3 ⟨rfl,q2,rfl⟩;go_wp2;go_ret;refine⟨TS HR.out.symm,ag.trans (Below.mono (Lib.below_putRow ?_ xT) ag.size)⟩;have hb1:=Lib.below_putRow (enc:=encStr) (q:=q) (d:=so.toArray) hB xT;exact⟨hb1.os,hb1.tape,hb1.output,by simp;have:=hb1.size;simp at this;omega,λk hk=>by rw[Go.Sort.heap_grow_old _ _ (by have:=hb1.size;omega)];exact hb1.block k hk⟩
def Um(r:Un):Bool:=decide (r.Tw.length<=40/\r.TC.length<=12/\r.TG.length<=20)&&(r.Tw.all U5&&(r.TC.all VE&&(r.TG.all Yn&&(jew r&&((r.TC.all λz=>z.TR.all (Xt r.Tw))&&(r.TG.all λx=>Xk r.TC x.UQ))))))
theorem ved{r:Un}(h:¬(r.Tw.length<=40/\r.TC.length<=12/\r.TG.length<=20)):Um r=false:=by unfold Um;rw[dfe h];rfl
theorem vee{r:Un}(h:r.Tw.all U5=false):Um r=false:=by unfold Um;rw[h];simp
theorem vgZ{r:Un}(h:r.TC.all VE=false):Um r=false:=by unfold Um;rw[h];simp
theorem vg0{r:Un}(h:r.TG.all Yn=false):Um r=false:=by unfold Um;rw[h];simp
theorem vg1{r:Un}(h:jew r=false):Um r=false:=by unfold Um;rw[h];simp
theorem vg2{r:Un}(h:(r.TC.all λz=>z.TR.all (Xt r.Tw))=false):Um r=false:=by unfold Um;rw[h];simp
theorem vg3{r:Un}(h:(r.TG.all λx=>Xk r.TC x.UQ)=false):Um r=false:=by unfold Um;rw[h];simp
theorem veg{r:Un}(h0:r.Tw.length<=40/\r.TC.length<=12/\r.TG.length<=20)(h1:r.Tw.all U5=true)(h2:r.TC.all VE=true)(h3:r.TG.all Yn=true)(h4:jew r=true)(h5:(r.TC.all λz=>z.TR.all (Xt r.Tw))=true)(h6:(r.TG.all λx=>Xk r.TC x.UQ)=true):Um r=true:=by unfold Um;rw[Uy h0,h1,h2,h3,h4,h5,h6];rfl
theorem jbr(r:Un)(v:Value)(w:World)(hE:Zx w)(hv:Zd w v r)(ok:r.ok)(sm:r.small)(di:∀x∈r.Tw,x.on.size<=1048576):
  C 76 #[v] w λe w'=>e=V (Z (Um r))/\Bw w w':=by
 have⟨a,b,c,ca,cb,cc,jH,fR,iw,kh⟩:=hv.form;have⟨⟨p1,p2⟩,⟨q1,q2⟩,⟨s1,s2⟩⟩:=ok;have⟨m1,m2,m3,m4⟩:=sm;have ag:=TK w (G #[U a r.Tw.length ca,U b r.TC.length cb,U c r.TG.length cc] 27);have hR:=λw hE (h:Za w a 9 (r.Tw.map Ud.cs))=>jop r.Tw a ca w hE h p2 di m1
 have hZ:=λw (h:Zo w b r.TC)=>jon r.TC b cb w h q2 m2
 have hK:=λw (h:Za w c 2 (r.TG.map UO.cs))=>joq r.TG c cc w h s2 m3
 have hU:=λw (h:Zd w v r)=>jhe r v w h m2 m3
 have hT:=λw (h:Zd w v r)=>ji6 r v w h m1 m2 q2
 have hY:=λw (h:Zd w v r)=>ji1 r v w h m2 m3
 subst jH;have N0:=@ved r;have N1:=@vee r;have N2:=@vgZ r;have N3:=@vg0 r;have N4:=@vg1 r;have N5:=@vg2 r;have N6:=@vg3 r;have YY:=@veg r;generalize Um r=rb at *;by_cases J1:40<r.Tw.length
 .have HR:Hid (rb=false):=N0 Q
  clear N0 N1 N2 N3 N4 N5 N6 YY;delta C;go_in;go_wp2;go_ret;exact⟨TS HR.out.symm,ag⟩
 by_cases IY:12<r.TC.length
 .have HR:Hid (rb=false):=N0 Q
  clear N0 N1 N2 N3 N4 N5 N6 YY;delta C;go_in;go_wp2;go_ret;exact⟨TS HR.out.symm,ag⟩
 by_cases IZ:20<r.TG.length
 .have HR:Hid (rb=false):=N0 Q
  clear N0 N1 N2 N3 N4 N5 N6 YY;delta C;go_in;go_wp2;go_ret;exact⟨TS HR.out.symm,ag⟩
 obtain⟨x0,y0,z0⟩:(λz:World=>z.cell? (O w.heap.size 0)=some (U a r.Tw.length ca)/\z.cell? (O w.heap.size 1)=some (U b r.TC.length cb)/\z.cell? (O w.heap.size 2)=some (U c r.TG.length cc)) (w.alloc (G #[U a r.Tw.length ca,U b r.TC.length cb,U c r.TG.length cc] 27)):=Z8;cases k1:r.Tw.all U5
 .have HR:Hid (rb=false):=N1 k1
  rw[k1]at hR;clear N0 N1 N2 N3 N4 N5 N6 YY;clear k1;delta C;go_in;go_wp2_with fail;refine(hR _ (hE.of_below ag) (fR.below ag)).mono ?_;rintro e w1 ⟨rfl,hb1⟩;have aj:=TJ ag hb1;go_wp2;go_ret;exact⟨TS HR.out.symm,aj⟩
 rw[k1]at hR;cases k2:r.TC.all VE
 .have HR:Hid (rb=false):=N2 k2
  rw[k2]at hZ;clear N0 N1 N2 N3 N4 N5 N6 YY;clear k1 k2;delta C;go_in;go_wp2_with fail;refine(hR _ (hE.of_below ag) (fR.below ag)).mono ?_;rintro e w1 ⟨rfl,hb1⟩;have aj:=TJ ag hb1;have x1:=Uu hb1 x0 x0;have y1:=Uu hb1 y0 y0;have z1:=Uu hb1 z0 z0;go_wp2_with fail;refine(hZ _ (iw.below aj)).mono ?_;rintro e w2 ⟨rfl,ac⟩;have an:=TJ aj ac;go_wp2;go_ret;exact⟨TS HR.out.symm,an⟩
 rw[k2]at hZ;cases k3:r.TG.all Yn
 .have HR:Hid (rb=false):=N3 k3
  rw[k3]at hK;clear N0 N1 N2 N3 N4 N5 N6 YY;clear k1 k2 k3;delta C;go_in;go_wp2_with fail;refine(hR _ (hE.of_below ag) (fR.below ag)).mono ?_;rintro e w1 ⟨rfl,hb1⟩;have aj:=TJ ag hb1;have x1:=Uu hb1 x0 x0;have y1:=Uu hb1 y0 y0;have z1:=Uu hb1 z0 z0;go_wp2_with fail;refine(hZ _ (iw.below aj)).mono ?_;rintro e w2 ⟨rfl,ac⟩;have an:=TJ aj ac;have x2:=Uu ac x1 x1;have y2:=Uu ac y1 y1;have z2:=Uu ac z1 z1;go_wp2_with fail;refine(hK _ (kh.below an)).mono ?_;rintro e w3 ⟨rfl,ar⟩;have ax:=TJ an ar;go_wp2;go_ret;exact⟨TS HR.out.symm,ax⟩
 rw[k3]at hK;cases k4:jew r
 .have HR:Hid (rb=false):=N4 k4
  rw[k4]at hU;clear N0 N1 N2 N3 N4 N5 N6 YY;clear k1 k2 k3 k4;delta C;go_in;go_wp2_with fail;refine(hR _ (hE.of_below ag) (fR.below ag)).mono ?_;rintro e w1 ⟨rfl,hb1⟩;have aj:=TJ ag hb1;have x1:=Uu hb1 x0 x0;have y1:=Uu hb1 y0 y0;have z1:=Uu hb1 z0 z0;go_wp2_with fail;refine(hZ _ (iw.below aj)).mono ?_;rintro e w2 ⟨rfl,ac⟩;have an:=TJ aj ac;have x2:=Uu ac x1 x1;have y2:=Uu ac y1 y1;have z2:=Uu ac z1 z1;go_wp2_with fail;refine(hK _ (kh.below an)).mono ?_;rintro e w3 ⟨rfl,ar⟩;have ax:=TJ an ar;have x3:=Uu ar x2 x2;have y3:=Uu ar y2 y2;have z3:=Uu ar z2 z2;go_wp2_with fail;refine(hU _ (hv.below ax)).mono ?_;rintro e w4 ⟨rfl,aD⟩;have aR:=TJ ax aD;go_wp2;go_ret;exact⟨TS HR.out.symm,aR⟩
 rw[k4]at hU;cases k5:(r.TC.all λz=>z.TR.all (Xt r.Tw))
 .have HR:Hid (rb=false):=N5 k5
  rw[k5]at hT;clear N0 N1 N2 N3 N4 N5 N6 YY;clear k1 k2 k3 k4 k5;delta C;go_in;go_wp2_with fail;refine(hR _ (hE.of_below ag) (fR.below ag)).mono ?_;rintro e w1 ⟨rfl,hb1⟩;have aj:=TJ ag hb1;have x1:=Uu hb1 x0 x0;have y1:=Uu hb1 y0 y0;have z1:=Uu hb1 z0 z0;go_wp2_with fail;refine(hZ _ (iw.below aj)).mono ?_;rintro e w2 ⟨rfl,ac⟩;have an:=TJ aj ac;have x2:=Uu ac x1 x1;have y2:=Uu ac y1 y1;have z2:=Uu ac z1 z1;go_wp2_with fail;refine(hK _ (kh.below an)).mono ?_;rintro e w3 ⟨rfl,ar⟩;have ax:=TJ an ar;have x3:=Uu ar x2 x2;have y3:=Uu ar y2 y2;have z3:=Uu ar z2 z2;go_wp2_with fail;refine(hU _ (hv.below ax)).mono ?_;rintro e w4 ⟨rfl,aD⟩;have aR:=TJ ax aD;have x4:=Uu aD x3 x3;have y4:=Uu aD y3 y3;have z4:=Uu aD z3 z3;go_wp2_with fail;refine(hT _ (hv.below aR)).mono ?_;rintro e w5 ⟨rfl,aV⟩;have bG:=TJ aR aV;go_wp2;go_ret;exact⟨TS HR.out.symm,bG⟩
 rw[k5]at hT;cases k6:(r.TG.all λx=>Xk r.TC x.UQ)
 .have HR:Hid (rb=false):=N6 k6
  rw[k6]at hY;clear N0 N1 N2 N3 N4 N5 N6 YY;clear k1 k2 k3 k4 k5 k6;delta C;go_in;go_wp2_with fail;refine(hR _ (hE.of_below ag) (fR.below ag)).mono ?_;rintro e w1 ⟨rfl,hb1⟩;have aj:=TJ ag hb1;have x1:=Uu hb1 x0 x0;have y1:=Uu hb1 y0 y0;have z1:=Uu hb1 z0 z0;go_wp2_with fail;refine(hZ _ (iw.below aj)).mono ?_;rintro e w2 ⟨rfl,ac⟩;have an:=TJ aj ac;have x2:=Uu ac x1 x1;have y2:=Uu ac y1 y1;have z2:=Uu ac z1 z1;go_wp2_with fail;refine(hK _ (kh.below an)).mono ?_;rintro e w3 ⟨rfl,ar⟩;have ax:=TJ an ar;have x3:=Uu ar x2 x2;have y3:=Uu ar y2 y2;have z3:=Uu ar z2 z2;go_wp2_with fail;refine(hU _ (hv.below ax)).mono ?_;rintro e w4 ⟨rfl,aD⟩;have aR:=TJ ax aD;have x4:=Uu aD x3 x3;have y4:=Uu aD y3 y3;have z4:=Uu aD z3 z3;go_wp2_with fail;refine(hT _ (hv.below aR)).mono ?_;rintro e w5 ⟨rfl,aV⟩;have bG:=TJ aR aV;have x5:=Uu aV x4 x4;have y5:=Uu aV y4 y4;have z5:=Uu aV z4 z4;go_wp2_with fail;refine(hY _ (hv.below bG)).mono ?_;rintro e w6 ⟨rfl,hb6⟩;have cp:=TJ bG hb6;go_wp2;go_ret;exact⟨TS HR.out.symm,cp⟩
 rw[k6]at hY;have HR:Hid (rb=true):=YY Q k1 k2 k3 k4 k5 k6;clear N0 N1 N2 N3 N4 N5 N6 YY k1 k2 k3 k4 k5 k6;delta C;go_in;go_wp2_with fail;refine(hR _ (hE.of_below ag) (fR.below ag)).mono ?_;rintro e w1 ⟨rfl,hb1⟩;have aj:=TJ ag hb1;have x1:=Uu hb1 x0 x0;have y1:=Uu hb1 y0 y0;have z1:=Uu hb1 z0 z0;go_wp2_with fail;refine(hZ _ (iw.below aj)).mono ?_;rintro e w2 ⟨rfl,ac⟩;have an:=TJ aj ac;have x2:=Uu ac x1 x1;have y2:=Uu ac y1 y1;have z2:=Uu ac z1 z1;go_wp2_with fail;refine(hK _ (kh.below an)).mono ?_;rintro e w3 ⟨rfl,ar⟩;have ax:=TJ an ar;have x3:=Uu ar x2 x2;have y3:=Uu ar y2 y2;have z3:=Uu ar z2 z2;go_wp2_with fail;refine(hU _ (hv.below ax)).mono ?_;rintro e w4 ⟨rfl,aD⟩;have aR:=TJ ax aD;have x4:=Uu aD x3 x3;have y4:=Uu aD y3 y3;have z4:=Uu aD z3 z3;go_wp2_with fail;refine(hT _ (hv.below aR)).mono ?_;rintro e w5 ⟨rfl,aV⟩;have bG:=TJ aR aV;have x5:=Uu aV x4 x4;have y5:=Uu aV y4 y4;have z5:=Uu aV z4 z4;go_wp2_with fail;refine(hY _ (hv.below bG)).mono ?_;rintro e w6 ⟨rfl,hb6⟩;have cp:=TJ bG hb6;go_wp2;go_ret;exact⟨TS HR.out.symm,cp⟩
theorem jf6{w':World}(h:w.ownsRow base e size v n xs)(hb:Bw w w'):w'.ownsRow base e size v n xs:=by
 refine⟨h.1,?_⟩;rcases h.2 with h2|⟨g,cap,cur,hv,hg,hh,rest⟩
 .exact .inl h2
 .refine .inr ⟨g,cap,cur,hv,hg,?_,rest⟩
  rw[hb.block g (by
   rcases Nat.lt_or_ge g w.heap.size with h'|h'
   .exact h'
   .rw[Array.getElem?_eq_none h']at hh;cases hh)]
  exact hh
theorem jni(h:w.ownsRow base e size v n xs)(hn:0<n):∃g cap,v=so g n cap:=by
 rcases h.2 with⟨_,h0⟩|⟨g,cap,_,hv,_⟩
 .omega
 .exact⟨g,cap,hv⟩
theorem jvq{g cap:Nat}(h:w.ownsRow base e 1 (so g n cap) n (ss.map Value.string)):Jm w (some (O g 0)) ss/\n<=cap/\ss.length=n:=by
 have hl:ss.length=n:=by simpa using h.1
 rcases h.2 with⟨h0,_⟩|⟨g',fK,cur,hv,hg,hh,hc,hm,hs,ht⟩
 .cases h0
 .injection hv with h1 _ h3
  injection h1 with h1
  injection h1 with h1
  subst h1 h3;refine⟨.inr ⟨g,0,rfl,λi s hi=>?_⟩,hc,hl⟩;have i7:=(Ux hi).1;have e1:(cur.toList.take (n*1))[i]? =(ss.map Value.string)[i]? :=by rw[ht]
  rw[List.getElem?_take,if_pos Q,Array.getElem?_toList,Uv,hi]at e1;simp only[World.cell?,hh,Nat.zero_add];simp only[Option.isSome_none,Bool.false_eq_true,if_false];exact e1
theorem jws:Xa ss t=true↔t.data.toList∈ZP ss:=by
 unfold Xa ZP;rw[List.any_eq_true,List.mem_map];constructor
 .rintro⟨x,hx,he⟩
  exact⟨x,hx,by rw[beq_iff_eq,ByteArray.toList_eq,ByteArray.toList_eq]at he;exact he⟩
 .rintro⟨x,hx,he⟩
  exact⟨x,hx,by rw[beq_iff_eq,ByteArray.toList_eq,ByteArray.toList_eq];exact he⟩
theorem jr7:Xa (zs.map UE.name) t=Xk zs t:=by
 unfold Xa Xk;rw[List.any_map];rfl
structure vdh(r:Un):Prop where
 lens:r.Tw.length<=40/\r.TC.length<=12/\r.TG.length<=20
 Tw:r.Tw.all U5=true
 TC:r.TC.all VE=true
 TG:r.TG.all Yn=true
 names:jew r=true
 there:(r.TC.all λz=>z.TR.all (Xt r.Tw))=true
 has:(r.TG.all λx=>Xk r.TC x.UQ)=true
theorem j01(h:Um r=true):vdh r:=by
 unfold Um at h;simp only[UM,decide_eq_true_eq]at h;have⟨h0,h1,h2,h3,h4,h5,h6⟩:=h;exact⟨h0,h1,h2,h3,h4,h5,h6⟩
theorem jie(h:vdh r->False):Um r=false:=by
 cases hb:Um r
 .rfl
 .exact(h (j01 hb)).elim
theorem jy0{x:Ud}(hk:r.Tw[k]? =some x)(h:U5 x=false):Um r=false:=vee (jg5 hk h)
theorem jyz(hk:r.TC[k]? =some z)(h:XT r.Tw z=false):Um r=false:=jie λt=>by
 have:=(jkj t.Tw).mp ⟨t.TC,t.there⟩ z (UH hk);rw[jmv this]at h;cases h
theorem jy1{x:UO}(hk:r.TG[k]? =some x)(h:U6 x.name=false\/Xa (r.TC.map UE.name) x.UQ=false):Um r=false:=jie λt=>by
 have h1:=List.all_eq_true.mp t.TG x (UH hk);have h2:=List.all_eq_true.mp t.has x (UH hk);unfold Yn at h1;simp only[UM]at h1;rcases h with h|h
 .rw[h1.2]at h;cases h
 .rw[jr7,h2]at h;cases h
theorem jk1(l:List ByteArray)(k:Nat):ZP (l.take k)=(ZP l).take k:=by unfold ZP;rw[List.map_take]
theorem j1u(hk:(jgx r)[k]? =some x)(h:Xa ((jgx r).take k) x=true):Um r=false:=jie λt=>by
 have hn:(ZP (jgx r)).Nodup:=by have:=t.names;unfold jew at this;exact VH this
 rw[jws,jk1]at h;exact(jij _).mpr hn k x.data.toList (by unfold ZP;rw[Uv,hk];rfl) h
theorem j1v(h0:r.Tw.length<=40/\r.TC.length<=12/\r.TG.length<=20)(h1:∀(k:Nat) x,r.Tw[k]? =some x->U5 x=true)(h2:∀(k:Nat) z,r.TC[k]? =some z->XT r.Tw z=true)
  (h3:∀(k:Nat) x,r.TG[k]? =some x->U6 x.name=true/\Xa (r.TC.map UE.name) x.UQ=true) (h4:∀(k:Nat) x,(jgx r)[k]? =some x->Xa ((jgx r).take k) x=false):Um r=true:=by
 have k1:r.Tw.all U5=true:=jed λj _ x hx=>h1 j x hx
 have kz:∀z∈r.TC,vbb r.Tw z:=λz hz=>by
  have⟨k,hk⟩:=Wq hz;exact vdd.mp (h2 k z hk)
 have⟨k2,k5⟩:=(jkj k1).mpr kz;have⟨k3,k6⟩:=(jth (ls:=r.TG) λz hz=>(kz z hz).name).mpr λx hx=>by
  have⟨k,hk⟩:=Wq hx;have:=h3 k x hk;rw[jr7]at this;exact this
 refine veg h0 k1 k2 k3 ?_ k5 k6;unfold jew;refine Uy ((jij _).mp λk x hk hm=>?_);unfold ZP at hk;rw[Uv]at hk;obtain⟨y,hy,rfl⟩:=Option.map_eq_some_iff.mp hk;have:=h4 k y hy;rw[<- jk1, <- jws]at hm;rw[this]at hm;cases hm
theorem jc7(r:Un)(v:Value)(w:World)(hv:Zd w v r)(ok:r.ok)(sm:r.small)(di:∀x∈r.Tw,x.on.size<=1048576):
  C 24 #[v] w λe w'=>e=V (Z (Um r))/\Bw w w':=by
 have⟨a,b,c,ca,cb,cc,jH,fR,iw,kh⟩:=hv.form;have⟨⟨p1,p2⟩,⟨q1,q2⟩,⟨s1,s2⟩⟩:=ok;have⟨m1,m2,m3,m4⟩:=sm;have⟨i0,hi,aG,aH,aF⟩:=jwn;have ag:=TK w (G #[U a r.Tw.length ca,U b r.TC.length cb,U c r.TG.length cc] 27);have N0:=@ved r;have rO:Hid (∀(k:Nat) (x:Ud),r.Tw[k]? =some x->U5 x=false->Um r=false):=λk x h1 h2=>jy0 h1 h2
 have gK:Hid (∀(k:Nat) (z:UE),r.TC[k]? =some z->XT r.Tw z=false->Um r=false):=λk x h1 h2=>jyz h1 h2
 have jt:Hid (∀(k:Nat) (x:UO),r.TG[k]? =some x->(U6 x.name=false\/Xa (r.TC.map UE.name) x.UQ=false)->Um r=false):=λk x h1 h2=>jy1 h1 h2
 have nG:Hid (∀(k:Nat) (x:ByteArray),(r.TC.map UE.name++r.TG.map UO.name)[k]? =some x->Xa ((r.TC.map UE.name++r.TG.map UO.name).take k) x=true->Um r=false):=λk x h1 h2=>j1u h1 h2
 have HY:Hid ((r.Tw.length<=40/\r.TC.length<=12/\r.TG.length<=20)->(∀(k:Nat) x,r.Tw[k]? =some x->U5 x=true)->(∀(k:Nat) z,r.TC[k]? =some z->XT r.Tw z=true)->
  (∀(k:Nat) x,r.TG[k]? =some x->U6 x.name=true/\Xa (r.TC.map UE.name) x.UQ=true)->(∀(k:Nat) x,(r.TC.map UE.name++r.TG.map UO.name)[k]? =some x->Xa ((r.TC.map UE.name++r.TG.map UO.name).take k) x=false)->Um r=true):=λh0 h1 h2 h3 h4=>j1v h0 h1 h2 h3 h4
 generalize Um r=rb at *;subst jH;by_cases J1:40<r.Tw.length
 .have HR:Hid (rb=false):=N0 Q
  clear N0 rO gK jt nG HY;delta C;go_in;go_wp2;go_ret;exact⟨TS HR.out.symm,ag⟩
 by_cases IY:12<r.TC.length
 .have HR:Hid (rb=false):=N0 Q
  clear N0 rO gK jt nG HY;delta C;go_in;go_wp2;go_ret;exact⟨TS HR.out.symm,ag⟩
 by_cases IZ:20<r.TG.length
 .have HR:Hid (rb=false):=N0 Q
  clear N0 rO gK jt nG HY;delta C;go_in;go_wp2;go_ret;exact⟨TS HR.out.symm,ag⟩
 clear N0;obtain⟨x0,y0,z0⟩:(λz:World=>z.cell? (O w.heap.size 0)=some (U a r.Tw.length ca)/\z.cell? (O w.heap.size 1)=some (U b r.TC.length cb)/\z.cell? (O w.heap.size 2)=some (U c r.TG.length cc)) (w.alloc (G #[U a r.Tw.length ca,U b r.TC.length cb,U c r.TG.length cc] 27)):=Z8;have HL:Hid (r.Tw.length<=40/\r.TC.length<=12/\r.TG.length<=20):=by simp only[Hid];omega
 have nZ:=js4 (w.alloc (G #[U a r.Tw.length ca,U b r.TC.length cb,U c r.TG.length cc] 27)) 9;have BL:=(Ui (w.alloc (G #[U a r.Tw.length ca,U b r.TC.length cb,U c r.TG.length cc] 27)).heap.size (w.alloc (G #[U a r.Tw.length ca,U b r.TC.length cb,U c r.TG.length cc] 27))).alloc (TP _) (G #[] 9);have AS:=fR.below ag;have AT:=iw.below ag;have AR:=kh.below ag;have ej:=hv.below ag;clear fR iw kh hv;have j6:Hid ((w.alloc (G #[U a r.Tw.length ca,U b r.TC.length cb,U c r.TG.length cc] 27)).heap.size=w.heap.size+1):=by simp[Hid]
 delta C;go_in;go_wp2;generalize hW:(w.alloc (G #[U a r.Tw.length ca,U b r.TC.length cb,U c r.TG.length cc] 27))=W at *;generalize j7:W.alloc (G #[] 9)=W1 at *;go_loopw [4] (λi wr=>∃k:Nat,k<=r.Tw.length/\i=J k/\Hid (∀j,j<k->∀x,r.Tw[j]? =some x->U5 x=true)/\Bw W1 wr) (λi _=>r.Tw.length-(intOf i).toNat)
 .exact⟨0,Q,rfl,λj hj=>Q,by subst j7;exact Ui _ _⟩
 ·
  obtain⟨k,hk,rfl,ak,aj⟩:=hrel;have hB:=TJ BL aj;have dr:=TJ ag hB;have x1:=Uu hB x0 x0;have y1:=Uu hB y0 y0;have z1:=Uu hB z0 z0;by_cases hlt:k<r.Tw.length
  .have⟨x,hx⟩:=Vb hlt
   obtain⟨b',o,rfl,hc⟩:=(AS.below hB).at (i:=k) (r:=x.cs) (by rw[Uv,hx];rfl);have hS:=λw=>jm9 x w (p2 x (UH hx)) (di x (UH hx))
   have c0:wr.cell? (O b' (o+k*9))=some (I x.name):=hc 0 _ rfl;have c1:=hc 1 _ rfl;have c2:=hc 2 _ rfl;have c3:=hc 3 _ rfl;have c4:=hc 4 _ rfl;have c5:=hc 5 _ rfl;have c6:=hc 6 _ rfl;have c7:=hc 7 _ rfl;have c8:=hc 8 _ rfl;clear hc;unfold Ud.v at hS;cases hb:U5 x
   .have HR:Hid (rb=false):=rO.out k x hx hb
    rw[hb]at hS;clear hb rO gK jt nG HY;go_wp2_with fail;refine(hS _).mono ?_;rintro e w2 ⟨rfl,ac⟩;go_wp2;go_ret;exact⟨TS HR.out.symm,(TJ dr ac)⟩
   .have HR:Hid (∀j,j<k+1->∀x,r.Tw[j]? =some x->U5 x=true):=λj hj y hy=>by
     by_cases e:j=k
     .subst e;rw[hx]at hy;obtain rfl:=Uw hy;exact hb
     .exact ak.out j Q y hy
    rw[hb]at hS;clear hb;go_wp2_with fail;refine(hS _).mono ?_;rintro e w2 ⟨rfl,ac⟩;go_wp2;go_roundw
    .exact⟨k+1,Q,Z7,HR,(TJ aj ac)⟩
    .simp[intOf];omega
  .have e:k=r.Tw.length:=Q
   subst e;have H1:Hid (∀(k:Nat) x,r.Tw[k]? =some x->U5 x=true):=λj x hx=>ak.out j (Ux hx).1 x hx
   have dW:=jf6 nZ aj;clear ak rO;go_wp2;obtain⟨wo,rfl⟩:=UL wr;go_loopw [3,5] (λs i wr=>∃k:Nat,k<=r.TC.length/\i=J k/\(∃g cap,s=so g k cap)/\wr.ownsRow W.heap.size 9 1 s k (((r.TC.map UE.name).take k).map Value.string)/\Hid (∀j,j<k->∀x,r.TC[j]? =some x->XT r.Tw x=true)/\Bw W wr) (λ_ i _=>r.TC.length-(intOf i).toNat)
   .exact⟨0,Q,rfl,⟨_,_,rfl⟩,by rw[<- j6.out];exact dW,λj hj=>Q,hB⟩
   ·
    clear dW nZ hB dr x1 y1 z1 aj;obtain⟨k,hk,rfl,kB,hO,ak,hB⟩:=hrel;have dr:=TJ ag hB;have x1:=Uu hB x0 x0;have y1:=Uu hB y0 y0;have z1:=Uu hB z0 z0;by_cases hlt:k<r.TC.length
    .have⟨x,hx⟩:=Vb hlt
     obtain⟨b',o,rfl,c0,u,c1,hu⟩:=(AT.below hB).at hx;have vV:=q2 x (UH hx);have cE:∀dd os,C 56 #[.agg #[U a r.Tw.length ca,U (some (O b' o)) r.TC.length cb,U c r.TG.length cc],.agg #[I x.name,u]] (grow (redrawn wr dd) os) λe cW=>e=V (Z (XT r.Tw x))/\∃p:Regrown,cW=grow (redrawn wr p.d) p.os:=λdd os=>Calls.regrown_of (jm8 r _ x u _ ((ej.below hB).below (below_regrown wr dd os)) (hu.below (below_regrown wr dd os)) vV m1)
     obtain⟨ae,ce,rfl,_⟩:=hu;have kx:=cell_regrown x1;have ky:=cell_regrown y1;have kz:=cell_regrown z1;have qT:=cell_regrown c0;have qU:=cell_regrown c1;cases hb:XT r.Tw x
     .have HR:Hid (rb=false):=gK.out k x hx hb
      rw[hb]at cE;clear hb gK jt nG HY kB hO;go_wp2_with fail;refine wp_region_quiet_below Z4 Z4 ?_
      repeat (quiet_step ((go_at_call 56;exact cE _ _)))
      refine wpQuiet_nil ?_;intro _ bM;have⟨⟨dq,aQ⟩,aO⟩:=bM;subst aO;have ac:=below_regrown wr dq aQ;go_wp2;go_ret;exact⟨TS HR.out.symm,(TJ dr ac)⟩
     .have HR:Hid (∀j,j<k+1->∀x,r.TC[j]? =some x->XT r.Tw x=true):=λj hj y hy=>by
       by_cases e:j=k
       .subst e;rw[hx]at hy;obtain rfl:=Uw hy;exact hb
       .exact ak.out j Q y hy
      rw[hb]at cE;have hs:=jeh (l:=r.TC.map UE.name) (k:=k) (x:=x.name) (by rw[Uv,hx];rfl);have HS:=hid hs;clear hs hb kB;go_wp2_with fail;refine wp_region_quiet_below Z4 Z4 ?_
      repeat (quiet_step ((go_at_call 56;exact cE _ _)))
      refine wpQuiet_nil ?_;intro Tu bM;have⟨⟨dq,aQ⟩,aO⟩:=bM;have ac:Bw wr Tu:=aO ▸ below_regrown wr dq aQ;clear aO kx ky kz qT qU cE;have an:=TJ hB ac;have aW:=jf6 hO ac;have x2:=Uu ac x1 x1;have y2:=Uu ac y1 y1;have d0:=Uu ac c0 c0;have hsz:=an.size;clear ac hO x1 y1 z1 c0 c1;generalize ((r.TC.map UE.name).take k).map Value.string=xs at *
      go_wp2_with (first
       |(at_builtin;refine wpList_append_own _ rfl _ _ 59 rfl W.heap.size 9 i0 (.string ⟨#[]⟩) 1 16 Tryz.underlying59 hi aG aH aF rfl Z5 _ _ _ rfl (aW.alloc _) ⟨Tu.heap.size,0,none⟩ 1 1 [.string x.name] rfl rfl ?c1 ?c2 ?c3 ?c4 ?c5 ?_)
       |fail)
      all_goals try go_simp
      case c2=>rfl
      case c3=>unfold maxLen;omega
      case c4=>omega
      case c5=>omega
      .intro v' w3 ao af _
       have ax:Bw W w3:=(an.alloc hsz _).grown af Z6 (jho aW);clear af aW;go_wp2;go_roundw
       .exact⟨k+1,Q,Z7,jni ao Q,by rw[HS.out];exact ao,HR,ax⟩
       .simp[intOf];omega
    .have e:k=r.TC.length:=Q
     subst e;have H2:Hid (∀(k:Nat) x,r.TC[k]? =some x->XT r.Tw x=true):=λj x hx=>ak.out j (Ux hx).1 x hx
     obtain⟨g0,Iu,rfl⟩:=kB;rw[List.take_of_length_le M]at hO;clear ak gK;go_wp2;obtain⟨Q7,rfl⟩:=UL wr;go_loopw [3,7] (λs i wr=>∃k:Nat,k<=r.TG.length/\i=J k/\(∃g cap,s=so g (r.TC.length+k) cap)/\wr.ownsRow W.heap.size 9 1 s (r.TC.length+k) ((r.TC.map UE.name++(r.TG.map UO.name).take k).map Value.string)/\Hid (∀j,j<k->∀x,r.TG[j]? =some x->U6 x.name=true/\Xa (r.TC.map UE.name) x.UQ=true)/\Bw W wr) (λ_ i _=>r.TG.length-(intOf i).toNat)
     .exact⟨0,Q,rfl,⟨_,_,rfl⟩,by simpa using hO,λj hj=>Q,hB⟩
     ·
      clear hO hB dr x1 y1 z1;obtain⟨k,hk,rfl,⟨g,cap,rfl⟩,hO,ak,hB⟩:=hrel;have dr:=TJ ag hB;have x1:=Uu hB x0 x0;have y1:=Uu hB y0 y0;have z1:=Uu hB z0 z0;have⟨xO,eh,au⟩:=jvq hO;have mi:=xO.take r.TC.length;rw[List.take_append_of_le_length M,List.take_of_length_le M]at mi;by_cases hlt:k<r.TG.length
      .have⟨x,hx⟩:=Vb hlt
       obtain⟨b',o,rfl,hc⟩:=(AR.below hB).at (i:=k) (r:=x.cs) (by rw[Uv,hx];rfl);have c0:wr.cell? (O b' (o+k*2))=some (I x.UQ):=hc 0 _ rfl;have c1:=hc 1 _ rfl;clear hc;have vV:=s2 x (UH hx);have hN:=λw=>jbu x.name w vV.2
       have hI:=λn=>jkv (r.TC.map UE.name) (some (O g 0)) cap x.UQ (wr.drewN n) (mi.below (below_drewN (Ui _ _) n)) Z6
       rw[U7]at hI;have j0:(0:Int)<=(r.TC.length:Int):=Q;have j1:(r.TC.length:Int)<=(cap:Int):=Q;cases hb1:U6 x.name
       .have HR:Hid (rb=false):=jt.out k x hx (.inl hb1)
        rw[hb1]at hN;clear hb1 jt nG HY;go_wp2_with fail;go_quiet ((first|(go_at_call 57;exact Calls.quiet_of_same (hN _))|(go_at_call 58;exact Calls.quiet_of_same (hI _))));go_wp2;go_ret;exact⟨TS HR.out.symm,below_drewN dr _⟩
       .rw[hb1]at hN
        cases ac:Xa (r.TC.map UE.name) x.UQ
        .have HR:Hid (rb=false):=jt.out k x hx (.inr ac)
         rw[ac]at hI;clear hb1 ac jt nG HY;go_wp2_with fail;go_quiet ((first|(go_at_call 57;exact Calls.quiet_of_same (hN _))|(go_at_call 58;exact Calls.quiet_of_same (hI _))));go_wp2;go_ret;exact⟨TS HR.out.symm,below_drewN dr _⟩
        .have HR:Hid (∀j,j<k+1->∀x,r.TG[j]? =some x->U6 x.name=true/\Xa (r.TC.map UE.name) x.UQ=true):=λj hj y hy=>by
          by_cases e:j=k
          .subst e;rw[hx]at hy;obtain rfl:=Uw hy;exact⟨hb1,ac⟩
          .exact ak.out j Q y hy
         rw[ac]at hI;clear hb1 ac;go_wp2_with fail;go_quiet ((first|(go_at_call 57;exact Calls.quiet_of_same (hN _))|(go_at_call 58;exact Calls.quiet_of_same (hI _))));obtain⟨Tu,hV⟩:∃Tu,Tu=wr.drewN nq:=⟨_,rfl⟩;rw[<- hV];have ac:Bw wr Tu:=hV ▸ below_drewN (Ui _ _) _;clear hV hI hN xO mi;have an:=TJ hB ac;have aW:=jf6 hO ac;have z2:=Uu ac z1 z1;have d1:=Uu ac c1 c1;have hsz:=an.size;have hs:=jeh (l:=r.TG.map UO.name) (k:=k) (x:=x.name) (by rw[Uv,hx];rfl);have HS:Hid ((r.TC.map UE.name++(r.TG.map UO.name).take (k+1)).map Value.string=(r.TC.map UE.name++(r.TG.map UO.name).take k).map Value.string++[I x.name]):=by
          simp only[Hid];rw[Vr,hs, <- List.append_assoc, <- Vr]
         clear hs ac hO x1 y1 z1 c0 c1 au;generalize (r.TC.map UE.name++(r.TG.map UO.name).take k).map Value.string=xs at *;obtain⟨n,hn⟩:∃n,n=r.TC.length+k:=⟨_,rfl⟩;have Eo:Hid (r.TC.length+(k+1)=n+1):=by simp only[Hid];omega
         have gF:n<=2097152:=Q;rw[<- hn]at aW ⊢;clear hn
         go_wp2_with (first
          |(at_builtin;refine wpList_append_own _ rfl _ _ 59 rfl W.heap.size 9 i0 (.string ⟨#[]⟩) 1 16 Tryz.underlying59 hi aG aH aF rfl Z5 _ _ _ rfl (aW.alloc _) ⟨Tu.heap.size,0,none⟩ 1 1 [.string x.name] rfl rfl ?d1 ?d2 ?d3 ?d4 ?d5 ?_)
          |fail)
         all_goals try go_simp
         case d2=>rfl
         case d3=>unfold maxLen;omega
         case d4=>omega
         case d5=>omega
         .intro v' w3 ao af _
          have ax:Bw W w3:=(an.alloc hsz _).grown af Z6 (jho aW);clear af aW;go_wp2;go_roundw
          .exact⟨k+1,Q,Z7,by rw[Eo.out];exact jni ao Q,by rw[HS.out,Eo.out];exact ao,HR,ax⟩
          .simp[intOf];omega
      .have e:k=r.TG.length:=Q
       subst e;have H3:Hid (∀(k:Nat) x,r.TG[k]? =some x->U6 x.name=true/\Xa (r.TC.map UE.name) x.UQ=true):=λj x hx=>ak.out j (Ux hx).1 x hx
       have Ij:Hid ((∀(k:Nat) x,(r.TC.map UE.name++r.TG.map UO.name)[k]? =some x->Xa ((r.TC.map UE.name++r.TG.map UO.name).take k) x=false)->rb=true):=λh4=>HY.out HL.out H1.out H2.out H3.out h4
       rw[List.take_of_length_le M]at xO au;clear ak jt HY HL H1 H2 H3 mi hO j6 j7;generalize r.TC.map UE.name++r.TG.map UO.name=ns at *;have gF:ns.length<=1048576:=Q;rw[<- au];rw[<- au]at eh;clear au;go_wp2;obtain⟨MH,rfl⟩:=UL wr;go_loopw [8] (λi wr=>∃k:Nat,k<=ns.length/\i=J k/\Hid (∀j,j<k->∀x,ns[j]? =some x->Xa (ns.take j) x=false)/\Bw MH wr) (λi _=>ns.length-(intOf i).toNat)
       .exact⟨0,Q,rfl,λj hj=>Q,Ui _ _⟩
       ·
        obtain⟨k,hk,rfl,ak,aR⟩:=hrel;have dA:=xO.below aR;have EZ:=TJ dr aR;by_cases hlt:k<ns.length
        .have⟨x,hx⟩:=Vb hlt
         have⟨b',o',he,c0⟩:=dA.at hx;injection he with he
         injection he with u1 u2
         subst u1 u2;rw[Nat.zero_add]at c0;have hI:=λn=>jkv (ns.take k) (some (O g 0)) cap x (wr.drewN n) ((dA.take k).below (below_drewN (Ui _ _) n)) (by rw[List.length_take];omega)
         rw[List.length_take,Nat.min_eq_left Q]at hI;have j0:(0:Int)<=(k:Int):=Q;have j1:(k:Int)<=(cap:Int):=Q;have j2:(k:Int)<(ns.length:Int):=Q;cases hb:Xa (ns.take k) x
         .have HR:Hid (∀j,j<k+1->∀x,ns[j]? =some x->Xa (ns.take j) x=false):=λj hj y hy=>by
           by_cases e:j=k
           .subst e;rw[hx]at hy;obtain rfl:=Uw hy;exact hb
           .exact ak.out j Q y hy
          rw[hb]at hI;clear hb;go_wp2_with fail;go_quiet ((go_at_call 58;exact Calls.quiet_of_same (hI _)));go_wp2;go_roundw
          .exact⟨k+1,Q,Z7,HR,below_drewN aR _⟩
          .simp[intOf];omega
         .have HR:Hid (rb=false):=nG.out k x hx hb
          rw[hb]at hI;clear hb;go_wp2_with fail;go_quiet ((go_at_call 58;exact Calls.quiet_of_same (hI _)));go_wp2;go_ret;exact⟨TS HR.out.symm,below_drewN EZ _⟩
        .have e:k=ns.length:=Q
         subst e;have HR:Hid (rb=true):=Ij.out λj x hx=>ak.out j (Ux hx).1 x hx
         go_wp2;go_ret;exact⟨TS HR.out.symm,EZ⟩
