import Derived.Test.YtpejeokacilebaaGreatDoorRightQd
import Derived.Lib.OwnBridge
set_option maxRecDepth 100000
set_option maxHeartbeats 0
set_option linter.unusedSimpArgs false
open Go.RowKit Go.Sort
namespace Go.Proofs.YtpejeokacilebaaGreatDoor
theorem jw0{rs:List RuleD}{s:ByteArray}(hr:rs.all jaw=true)(h:hasB rs s=true):jaz s=true:=by
 unfold hasB at h
 obtain⟨x,hx,he⟩:=List.any_eq_true.mp h
 have h1:=List.all_eq_true.mp hr x hx
 unfold jaw at h1
 simp only[bat]at h1
 have e:x.name=s:=toList_inj (beq_iff_eq.mp he)
 rw[<- e];exact h1.1
theorem jsd{rs:List RuleD}(hr:rs.all jaw=true)(e:EraD):(eraP e=true/\jb0 rs e=true)↔eraM rs e=true:=by
 unfold eraP jb0 eraM erB isB
 cases he:e.rules.toList.isEmpty
 ·cases hh:hasB rs e.rules
  ·simp
  ·have hn:=jw0 hr hh
   rw[hn]
   simp only[bat,decide_eq_true_eq,Bool.or_eq_true,Bool.false_eq_true,if_false,false_or,true_and,and_true]
   constructor
   ·rintro⟨a,b,c,d,f,g,h⟩
    exact⟨c,⟨a,b⟩,by omega,d,⟨f,g⟩,h⟩
   ·rintro⟨c,⟨a,b⟩,_,d,⟨f,g⟩,h⟩
    exact⟨a,b,c,d,f,g,h⟩
 ·simp only[bat,decide_eq_true_eq,Bool.or_eq_true,if_true,true_or,true_and,and_true]
  constructor
  ·rintro⟨a,b,c,d,f,g,h⟩
   exact⟨⟨a,b⟩,c,d,⟨f,g⟩,h⟩
  ·rintro⟨⟨a,b⟩,c,d,⟨f,g⟩,h⟩
   exact⟨a,b,c,d,f,g,h⟩
structure StepM(rs:List RuleD)(es:List EraD)(k:Nat)(e:EraD):Prop where
 era:eraM rs e=true
 up:∀j p,k=j+1->es[j]? =some p->p.until_<e.until_
 last:e.until_=253402300799↔k+1=es.length
 of:k+1=es.length->e.of.toList=[119]
structure ZoneM(rs:List RuleD)(z:ZoneD):Prop where
 name:jaz z.name=true
 len:1<=z.eras.length/\z.eras.length<=8
 steps:∀k e,z.eras[k]? =some e->StepM rs z.eras k e
theorem j2z{es:List EraD}(h:upB es=true){i:Nat}{x y:EraD}(hx:es[i]? =some x)(hy:es[i+1]? =some y):x.until_<y.until_:=by
 by_cases hn:x.until_<y.until_
 ·exact hn
 ·rw[j20 hx hy hn]at h;cases h
theorem jt3{rs:List RuleD}{e:EraD}(h:eraM rs e=true):e.until_<=253402300799:=by
 unfold eraM isB at h
 simp only[bat,decide_eq_true_eq]at h
 exact h.2.2.2.2.1.2
theorem jhu{rs:List RuleD}(hr:rs.all jaw=true)(z:ZoneD):(jbh z=true/\z.eras.all (jb0 rs)=true)↔ZoneM rs z:=by
 obtain⟨nm,es⟩:=z
 unfold jbh
 simp only[bat,decide_eq_true_eq]
 constructor
 ·rintro⟨⟨h1,h2,h3,h4,h5⟩,h6⟩
  have hE:∀k e,es[k]? =some e->eraM rs e=true:=fun k e hk=>(jsd hr e).mp ⟨List.all_eq_true.mp h3 e (lmg hk),List.all_eq_true.mp h6 e (lmg hk)⟩
  have hla:∀k e,es[k]? =some e->k+1=es.length->e.until_=253402300799/\e.of.toList=[119]:=by
   intro k e hk hl
   unfold laB2 at h5
   rw[show es.length-1=k by omega,hk]at h5
   simp only[bat,beq_iff_eq]at h5
   exact h5
  refine⟨h1,h2,fun k e hk=>⟨hE k e hk,?_,⟨fun hu=>?_,fun hl=>(hla k e hk hl).1⟩,fun hl=>(hla k e hk hl).2⟩⟩
  ·rintro j p rfl hp
   exact j2z h4 hp hk
  ·have eY:k<es.length:=(lgs hk).1
   by_cases hl:k+1=es.length
   ·exact hl
   ·obtain⟨y,hy⟩:∃y,es[k+1]? =some y:=⟨_,lgg (by omega)⟩
    have:=j2z h4 hk hy
    have:=jt3 (hE _ y hy)
    omega
 ·rintro⟨h1,h2,hs⟩
  simp only at h1 h2 hs
  have hE:∀e∈es,eraP e=true/\jb0 rs e=true:=fun e he=>by
   obtain⟨k,hk⟩:=lgo he
   exact(jsd hr e).mpr (hs k e hk).era
  refine⟨⟨h1,h2,List.all_eq_true.mpr fun e he=>(hE e he).1,j0u fun i x y hx hy=>(hs _ y hy).up i x rfl hx,?_⟩,List.all_eq_true.mpr fun e he=>(hE e he).2⟩
  obtain⟨y,hy⟩:∃y,es[es.length-1]? =some y:=⟨_,lgg (by omega)⟩
  have hS:=hs _ y hy
  unfold laB2
  rw[hy]
  simp only[bat,beq_iff_eq]
  exact⟨hS.last.mpr (by omega),hS.of (by omega)⟩
def jvb(rs:List RuleD)(es:List EraD)(k:Nat)(e:EraD):Bool:=
 eraM rs e&&((k==0) || (match es[k-1]? with|some p=>decide (p.until_<e.until_)|none=>true))&&(decide (e.until_=253402300799)==decide (k+1=es.length))&&(!decide (k+1=es.length) || e.of.toList==[119])
theorem stepMB_iff{rs:List RuleD}{es:List EraD}{k:Nat}{e:EraD}:jvb rs es k e=true↔StepM rs es k e:=by
 unfold jvb
 simp only[bat,Bool.or_eq_true,beq_iff_eq,Bool.not_eq_true',decide_eq_false_iff_not,decide_eq_decide]
 constructor
 ·rintro⟨⟨⟨h1,h2⟩,h3⟩,h4⟩
  refine⟨h1,?_,h3,?_⟩
  ·rintro j p rfl hp
   rcases h2 with h2|h2
   ·omega
   ·rw[show j+1-1=j by omega,hp]at h2
    exact odt h2
  ·intro hk
   rcases h4 with h4|h4
   ·exact absurd hk h4
   ·exact h4
 ·rintro⟨h1,h2,h3,h4⟩
  refine⟨⟨⟨h1,?_⟩,h3⟩,?_⟩
  ·by_cases hk:k=0
   ·exact .inl hk
   ·refine .inr ?_
    cases hp:es[k-1]? with
    |none=>rfl
    |some p=>exact dte (h2 (k-1) p (by omega) hp)
  ·by_cases hk:k+1=es.length
   ·exact .inr (h4 hk)
   ·exact .inl hk
def jb7(rs:List RuleD)(z:ZoneD):Bool:=
 jaz z.name&&decide (1<=z.eras.length/\z.eras.length<=8)&&(List.range z.eras.length).all fun k=>match z.eras[k]? with|some e=>jvb rs z.eras k e|none=>true
theorem zoneMB_iff{rs:List RuleD}{z:ZoneD}:jb7 rs z=true↔ZoneM rs z:=by
 unfold jb7
 simp only[bat,decide_eq_true_eq,List.all_eq_true,List.mem_range]
 constructor
 ·rintro⟨⟨h1,h2⟩,h3⟩
  refine⟨h1,h2,fun k e hk=>?_⟩
  have:=h3 k (lgs hk).1
  rw[hk]at this
  exact stepMB_iff.mp this
 ·rintro⟨h1,h2,h3⟩
  refine⟨⟨h1,h2⟩,fun k hk=>?_⟩
  cases he:z.eras[k]? with
  |none=>rfl
  |some e=>exact stepMB_iff.mpr (h3 k e he)
theorem jhn{rs:List RuleD}{z:ZoneD}(h:¬ZoneM rs z):jb7 rs z=false:=by
 cases hb:jb7 rs z
 ·rfl
 ·exact absurd (zoneMB_iff.mp hb) h
theorem jmv{rs:List RuleD}{z:ZoneD}(h:ZoneM rs z):jb7 rs z=true:=zoneMB_iff.mpr h
theorem j3r{zs:List ZoneD}{s:ByteArray}(hz:∀z∈zs,jaz z.name=true)(h:hasZ zs s=true):jaz s=true:=by
 unfold hasZ at h
 obtain⟨x,hx,he⟩:=List.any_eq_true.mp h
 rw[<- toList_inj (beq_iff_eq.mp he)]
 exact hz x hx
theorem jth{zs:List ZoneD}{ls:List LinkD}(hz:∀z∈zs,jaz z.name=true):(ls.all jes=true/\(ls.all fun x=>hasZ zs x.to_)=true)↔∀x∈ls,jaz x.name=true/\hasZ zs x.to_=true:=by
 simp only[List.all_eq_true]
 unfold jes
 simp only[bat]
 constructor
 ·rintro⟨h1,h2⟩ x hx
  exact⟨(h1 x hx).2,h2 x hx⟩
 ·intro h
  exact⟨fun x hx=>⟨j3r hz (h x hx).2,(h x hx).1⟩,fun x hx=>(h x hx).2⟩
theorem jkj{rs:List RuleD}{zs:List ZoneD}(hr:rs.all jaw=true):(zs.all jbh=true/\(zs.all fun z=>z.eras.all (jb0 rs))=true)↔∀z∈zs,ZoneM rs z:=by
 simp only[List.all_eq_true (l:=zs)]
 exact⟨fun h z hz=>(jhu hr z).mp ⟨h.1 z hz,h.2 z hz⟩,fun h=>⟨fun z hz=>((jhu hr z).mpr (h z hz)).1,fun z hz=>((jhu hr z).mpr (h z hz)).2⟩⟩
theorem jm8(r:RelD)(v:Value)(z:ZoneD)(u:Value)(w:World)(hv:Zd w v r)(hu:Jf w u z.eras)(ok:z.ok)(hl:r.rules.length<=1048576):
  Cl 31 #[v,.agg #[.string z.name,u]] w fun e w'=>e=.returned (.bool (jb7 r.rules z))/\Bw w w':=by
 obtain⟨a,cap,rfl,hA⟩:=hu
 obtain⟨m1,m2,m3⟩:=ok
 unfold maxLen at m2
 have h1:=fun w=>jbu z.name w m1
 obtain⟨ra,rb,rc,ca,cb,cc,jH,_,_,_⟩:=hv.form
 have ag:=fun o o2=>(qal w o).alloc (by simp) o2
 generalize r.zones.length=zn at *
 generalize r.links.length=kn at *
 generalize hrn:r.rules.length=rn at *
 subst jH
 cases hn:jaz z.name
 ·rw[jhn fun h=>by have:=h.name;rw[hn]at this;cases this]
  rw[hn]at h1
  clear hn
  unfold Cl;go_in
  go_wp2_with fail
  refine(h1 _).mono ?_
  rintro e w' ⟨rfl,rfl⟩
  go_wp2
  go_ret
  exact⟨rfl,ag _ _⟩
 rw[hn]at h1
 by_cases hl0:z.eras.length<1
 ·rw[jhn fun h=>by have:=h.len;omega]
  unfold Cl;go_in
  go_wp2_with fail
  refine(h1 _).mono ?_
  rintro e w' ⟨rfl,rfl⟩
  go_wp2
  go_ret
  exact⟨rfl,ag _ _⟩
 by_cases G3:8<z.eras.length
 ·rw[jhn fun h=>by have:=h.len;omega]
  unfold Cl;go_in
  go_wp2_with fail
  refine(h1 _).mono ?_
  rintro e w' ⟨rfl,rfl⟩
  go_wp2
  go_ret
  exact⟨rfl,ag _ _⟩
 have HZ:Hid ((∀k e,z.eras[k]? =some e->StepM r.rules z.eras k e)->jb7 r.rules z=true):=fun h=>jmv ⟨hn,by omega,h⟩
 have HN:Hid (∀k e,z.eras[k]? =some e->¬StepM r.rules z.eras k e->jb7 r.rules z=false):=fun k e hk h=>jhn fun hz=>h (hz.steps k e hk)
 clear hn
 generalize jb7 r.rules z=zb at *
 obtain⟨nm,es⟩:=z
 simp only at *
 unfold Cl;go_in
 go_wp2_with fail
 refine(h1 _).mono ?_
 rintro e w' ⟨rfl,rfl⟩
 clear h1
 go_wp2
 have bQ:=ag (.cells #[.slice ra rn ca,.slice rb zn cb,.slice rc kn cc] 37) (.cells #[.string nm,.slice a es.length cap] 81)
 clear ag
 have eL:=hA.below bQ
 have ej:=hv.below bQ
 obtain⟨x0,x1,x2,x3⟩:(fun z:World=>z.cell? (ad w.heap.size 0)=some (.slice ra rn ca)/\z.cell? (ad w.heap.size 1)=some (.slice rb zn cb)/\z.cell? (ad w.heap.size 2)=some (.slice rc kn cc)/\z.cell? (ad (w.heap.size+1) 1)=some (.slice a es.length cap)) ((w.alloc (.cells #[.slice ra rn ca,.slice rb zn cb,.slice rc kn cc] 37)).alloc (.cells #[.string nm,.slice a es.length cap] 81)):=by simp[go_sem]
 generalize hW:((w.alloc (.cells #[.slice ra rn ca,.slice rb zn cb,.slice rc kn cc] 37)).alloc (.cells #[.string nm,.slice a es.length cap] 81))=W at *
 go_loopw [6] (fun i wr=>∃k:Nat,k<=es.length/\i=iv k/\Hid (∀j,j<k->∀x,es[j]? =some x->StepM r.rules es j x)/\Bw W wr) (fun i _=>es.length-(intOf i).toNat)
 case atStart=>exact⟨0,by omega,rfl,fun j hj=>by omega,by subst hW;exact brf _ _⟩
 case round=>
  obtain⟨k,hk,rfl,ak,hB⟩:=hrel
  by_cases hlt:k<es.length
  ·obtain ⟨x,hx⟩:=qgg hlt
   have vV:=m3 x (lmg hx)
   have fu:Bw W (wr.alloc (.cells #[iv x.offset,.string x.rules,iv x.save,.string x.format,iv x.until_,.string x.of] 133)):=hB.alloc hB.size _
   obtain⟨b,o,rfl,hc⟩:=(eL.below hB).at (i:=k) (r:=x.cs) (by rw[lgm,hx];rfl)
   have c0:wr.cell? (ad b (o+k*6))=some (iv x.offset):=hc 0 _ rfl
   have c1:=hc 1 _ rfl
   have c2:=hc 2 _ rfl
   have c3:=hc 3 _ rfl
   have c4:=hc 4 _ rfl
   have c5:=hc 5 _ rfl
   clear hc
   have y3:wr.cell? (ad (w.heap.size+1) 1)=some (.slice (some (ad b o)) es.length cap):=by rw[(jaf hB).1 _ _ (qbl x3)];exact x3
   have k0:=cell_regrown ((jaf fu).1 _ _ (qbl x0) |>.trans x0)
   have k1:=cell_regrown ((jaf fu).1 _ _ (qbl x1) |>.trans x1)
   have k2:=cell_regrown ((jaf fu).1 _ _ (qbl x2) |>.trans x2)
   have k3:=cell_regrown ((jaf fu).1 _ _ (qbl x3) |>.trans x3)
   have e0:=cell_regrown (w:=wr.alloc (.cells #[iv x.offset,.string x.rules,iv x.save,.string x.format,iv x.until_,.string x.of] 133)) (show _=some (iv x.offset)from by first|(simp;done)|simp[go_sem]:(wr.alloc (.cells #[iv x.offset,.string x.rules,iv x.save,.string x.format,iv x.until_,.string x.of] 133)).cell? (ad wr.heap.size 0)=_)
   have e1:=cell_regrown (w:=wr.alloc (.cells #[iv x.offset,.string x.rules,iv x.save,.string x.format,iv x.until_,.string x.of] 133)) (show _=some (Value.string x.rules)from by first|(simp;done)|simp[go_sem]:(wr.alloc (.cells #[iv x.offset,.string x.rules,iv x.save,.string x.format,iv x.until_,.string x.of] 133)).cell? (ad wr.heap.size 1)=_)
   have e2:=cell_regrown (w:=wr.alloc (.cells #[iv x.offset,.string x.rules,iv x.save,.string x.format,iv x.until_,.string x.of] 133)) (show _=some (iv x.save)from by first|(simp;done)|simp[go_sem]:(wr.alloc (.cells #[iv x.offset,.string x.rules,iv x.save,.string x.format,iv x.until_,.string x.of] 133)).cell? (ad wr.heap.size 2)=_)
   have e3:=cell_regrown (w:=wr.alloc (.cells #[iv x.offset,.string x.rules,iv x.save,.string x.format,iv x.until_,.string x.of] 133)) (show _=some (Value.string x.format)from by first|(simp;done)|simp[go_sem]:(wr.alloc (.cells #[iv x.offset,.string x.rules,iv x.save,.string x.format,iv x.until_,.string x.of] 133)).cell? (ad wr.heap.size 3)=_)
   have e4:=cell_regrown (w:=wr.alloc (.cells #[iv x.offset,.string x.rules,iv x.save,.string x.format,iv x.until_,.string x.of] 133)) (show _=some (iv x.until_)from by first|(simp;done)|simp[go_sem]:(wr.alloc (.cells #[iv x.offset,.string x.rules,iv x.save,.string x.format,iv x.until_,.string x.of] 133)).cell? (ad wr.heap.size 4)=_)
   have e5:=cell_regrown (w:=wr.alloc (.cells #[iv x.offset,.string x.rules,iv x.save,.string x.format,iv x.until_,.string x.of] 133)) (show _=some (Value.string x.of)from by first|(simp;done)|simp[go_sem]:(wr.alloc (.cells #[iv x.offset,.string x.rules,iv x.save,.string x.format,iv x.until_,.string x.of] 133)).cell? (ad wr.heap.size 5)=_)
   have cE:∀dd os,Cl _ _ (grow (redrawn (wr.alloc (.cells #[iv x.offset,.string x.rules,iv x.save,.string x.format,iv x.until_,.string x.of] 133)) dd) os) fun e cW=>e=.returned (.bool (eraM r.rules x))/\∃p:Regrown,cW=grow (redrawn (wr.alloc (.cells #[iv x.offset,.string x.rules,iv x.save,.string x.format,iv x.until_,.string x.of] 133)) p.d) p.os:=fun dd os=>Calls.regrown_of (jpr r _ x _ ((ej.below fu).below (below_regrown _ dd os)) vV (by omega))
   unfold EraD.v at cE
   go_wp2_with fail
   generalize hV:(wr.alloc (.cells #[iv x.offset,.string x.rules,iv x.save,.string x.format,iv x.until_,.string x.of] 133))=V at *
   generalize wr.heap.size=g at *
   clear c0 c1 c2 c3 c4 c5 y3
   have HX:Hid (∀d o,Bw w (grow (redrawn V d) o)):=fun d o=>bQ.trans ((fu.trans ((below_regrown V d o).mono fu.size)).mono bQ.size)
   cases hbe:eraM r.rules x
   ·rw[hbe]at cE
    have HR:Hid (zb=false):=HN.out k x hx fun h=>by have:=h.era;rw[hbe]at this;cases this
    clear HZ HN
    refine wp_region_quiet_below (by kernel_rfl) (by kernel_rfl) ?_
    repeat (first|go_big_quiet_step ((go_at_call 66;exact cE _ _))|quiet_step ((go_at_call 66;exact cE _ _)))
    refine wpQuiet_nil ?_
    rintro _ ⟨⟨dq,aQ⟩,rfl⟩
    go_wp2
    go_ret
    exact⟨ret_bool HR.out.symm,HX.out dq aQ⟩
   ·rw[hbe]at cE
    by_cases Cd:k=0
    ·have p9:decide ((0:Int)<(k:Int))=false:=by simp;omega
     have oC:decide (0<k)=false:=by simp;omega
     have fy:=hid Cd
     clear Cd
     by_cases g1:Hid (x.until_=253402300799)
     ·have Ax:(x.until_==253402300799)=true:=by simpa using g1.out
      by_cases g2:Hid (k+1=es.length)
      ·have ke:((((k:Nat):Int))==((es.length:Int)-1))=true:=by have:=g2.out;simp;omega
       cases g3:(x.of.toList==[119])
       ·have g4:Hid (x.of.toList≠[119]):=by simp only[Hid];simpa using g3
        have HR:Hid (zb=false):=HN.out (k) x hx fun h=>by exact g4.out (h.of g2.out)
        clear HZ HN ak
        refine wp_region_quiet_below (by kernel_rfl) (by kernel_rfl) ?_
        repeat (first|go_big_quiet_step ((go_at_call 66;exact cE _ _))|quiet_step ((go_at_call 66;exact cE _ _)))
        refine wpQuiet_nil ?_
        rintro _ ⟨⟨dq,aQ⟩,rfl⟩
        go_wp2
        go_ret
        exact⟨ret_bool HR.out.symm,HX.out dq aQ⟩
       ·have g4:Hid (x.of.toList=[119]):=by simp only[Hid];simpa using g3
        have HR:Hid (∀i,i<k+1->∀y,es[i]? =some y->StepM r.rules es i y):=fun i hi y hy=>by
         by_cases e:i=k
         ·subst e;rw[hx]at hy;obtain rfl:=osi hy;exact⟨hbe,fun j p hj _=>by have:=fy.out;omega,⟨fun _=>g2.out,fun _=>g1.out⟩,fun _=>g4.out⟩
         ·exact ak.out i (by omega) y hy
        clear HZ HN ak
        refine wp_region_quiet_below (by kernel_rfl) (by kernel_rfl) ?_
        repeat (first|go_big_quiet_step ((go_at_call 66;exact cE _ _))|quiet_step ((go_at_call 66;exact cE _ _)))
        refine wpQuiet_nil ?_
        rintro _ ⟨⟨dq,aQ⟩,rfl⟩
        have ac:=below_regrown V dq aQ
        go_wp2
        go_roundw
        case rel=>exact⟨k+1,by omega,by go_num,HR,(qtr fu ac)⟩
        case measure=>simp[intOf];omega
      ·have ke:((((k:Nat):Int))==((es.length:Int)-1))=false:=by have tI:¬(k+1=es.length):=fun h=>g2 h;simp;omega
       have HR:Hid (zb=false):=HN.out (k) x hx fun h=>by exact g2 (h.last.mp g1.out)
       clear HZ HN ak
       refine wp_region_quiet_below (by kernel_rfl) (by kernel_rfl) ?_
       repeat (first|go_big_quiet_step ((go_at_call 66;exact cE _ _))|quiet_step ((go_at_call 66;exact cE _ _)))
       refine wpQuiet_nil ?_
       rintro _ ⟨⟨dq,aQ⟩,rfl⟩
       go_wp2
       go_ret
       exact⟨ret_bool HR.out.symm,HX.out dq aQ⟩
     ·have Ax:(x.until_==253402300799)=false:=by simp;exact fun h=>g1 h
      by_cases g2:Hid (k+1=es.length)
      ·have ke:((((k:Nat):Int))==((es.length:Int)-1))=true:=by have:=g2.out;simp;omega
       have HR:Hid (zb=false):=HN.out (k) x hx fun h=>by exact g1 (h.last.mpr g2.out)
       clear HZ HN ak
       refine wp_region_quiet_below (by kernel_rfl) (by kernel_rfl) ?_
       repeat (first|go_big_quiet_step ((go_at_call 66;exact cE _ _))|quiet_step ((go_at_call 66;exact cE _ _)))
       refine wpQuiet_nil ?_
       rintro _ ⟨⟨dq,aQ⟩,rfl⟩
       go_wp2
       go_ret
       exact⟨ret_bool HR.out.symm,HX.out dq aQ⟩
      ·have ke:((((k:Nat):Int))==((es.length:Int)-1))=false:=by have tI:¬(k+1=es.length):=fun h=>g2 h;simp;omega
       have HR:Hid (∀i,i<k+1->∀y,es[i]? =some y->StepM r.rules es i y):=fun i hi y hy=>by
        by_cases e:i=k
        ·subst e;rw[hx]at hy;obtain rfl:=osi hy;exact⟨hbe,fun j p hj _=>by have:=fy.out;omega,⟨fun h=>absurd h g1,fun h=>absurd h g2⟩,fun h=>absurd h g2⟩
        ·exact ak.out i (by omega) y hy
       clear HZ HN ak
       refine wp_region_quiet_below (by kernel_rfl) (by kernel_rfl) ?_
       repeat (first|go_big_quiet_step ((go_at_call 66;exact cE _ _))|quiet_step ((go_at_call 66;exact cE _ _)))
       refine wpQuiet_nil ?_
       rintro _ ⟨⟨dq,aQ⟩,rfl⟩
       have ac:=below_regrown V dq aQ
       go_wp2
       go_roundw
       case rel=>exact⟨k+1,by omega,by go_num,HR,(qtr fu ac)⟩
       case measure=>simp[intOf];omega
    ·obtain⟨j,rfl⟩:∃j,k=j+1:=⟨k-1,by omega⟩
     obtain⟨q,hq⟩:∃q,es[j]? =some q:=⟨_,lgg (by omega)⟩
     obtain⟨b',o',he,hd⟩:=(eL.below fu).at (i:=j) (r:=q.cs) (by rw[lgm,hq];rfl)
     injection he with he
     injection he with u1 u2
     subst u1 u2
     have p4:=cell_regrown (hd 4 _ rfl)
     clear hd
     by_cases hu:q.until_<x.until_
     ·have KJ:decide (x.until_<=q.until_)=false:=by simpa using hu
      by_cases g1:Hid (x.until_=253402300799)
      ·have Ax:(x.until_==253402300799)=true:=by simpa using g1.out
       by_cases g2:Hid (j+1+1=es.length)
       ·have ke:((((j+1:Nat):Int))==((es.length:Int)-1))=true:=by have:=g2.out;simp;omega
        have g5:(((j:Int)+1)==((es.length:Int)-1))=true:=by have:=g2.out;simp;omega
        cases g3:(x.of.toList==[119])
        ·have g4:Hid (x.of.toList≠[119]):=by simp only[Hid];simpa using g3
         have HR:Hid (zb=false):=HN.out (j+1) x hx fun h=>by exact g4.out (h.of g2.out)
         clear HZ HN ak
         refine wp_region_quiet_below (by kernel_rfl) (by kernel_rfl) ?_
         repeat (first|go_big_quiet_step ((go_at_call 66;exact cE _ _))|quiet_step ((go_at_call 66;exact cE _ _)))
         refine wpQuiet_nil ?_
         rintro _ ⟨⟨dq,aQ⟩,rfl⟩
         go_wp2
         go_ret
         exact⟨ret_bool HR.out.symm,HX.out dq aQ⟩
        ·have g4:Hid (x.of.toList=[119]):=by simp only[Hid];simpa using g3
         have HR:Hid (∀i,i<j+1+1->∀y,es[i]? =some y->StepM r.rules es i y):=fun i hi y hy=>by
          by_cases e:i=j+1
          ·subst e;rw[hx]at hy;obtain rfl:=osi hy;exact⟨hbe,fun i p hi hp=>by obtain rfl:i=j:=(by omega);rw[hq]at hp;obtain rfl:=osi hp;exact hu,⟨fun _=>g2.out,fun _=>g1.out⟩,fun _=>g4.out⟩
          ·exact ak.out i (by omega) y hy
         clear HZ HN ak
         refine wp_region_quiet_below (by kernel_rfl) (by kernel_rfl) ?_
         repeat (first|go_big_quiet_step ((go_at_call 66;exact cE _ _))|quiet_step ((go_at_call 66;exact cE _ _)))
         refine wpQuiet_nil ?_
         rintro _ ⟨⟨dq,aQ⟩,rfl⟩
         have ac:=below_regrown V dq aQ
         go_wp2
         go_roundw
         case rel=>exact⟨j+1+1,by omega,by go_num,HR,(qtr fu ac)⟩
         case measure=>simp[intOf];omega
       ·have ke:((((j+1:Nat):Int))==((es.length:Int)-1))=false:=by have tI:¬(j+1+1=es.length):=fun h=>g2 h;simp;omega
        have g5:(((j:Int)+1)==((es.length:Int)-1))=false:=by have tI:¬(j+1+1=es.length):=fun h=>g2 h;simp;omega
        have HR:Hid (zb=false):=HN.out (j+1) x hx fun h=>by exact g2 (h.last.mp g1.out)
        clear HZ HN ak
        refine wp_region_quiet_below (by kernel_rfl) (by kernel_rfl) ?_
        repeat (first|go_big_quiet_step ((go_at_call 66;exact cE _ _))|quiet_step ((go_at_call 66;exact cE _ _)))
        refine wpQuiet_nil ?_
        rintro _ ⟨⟨dq,aQ⟩,rfl⟩
        go_wp2
        go_ret
        exact⟨ret_bool HR.out.symm,HX.out dq aQ⟩
      ·have Ax:(x.until_==253402300799)=false:=by simp;exact fun h=>g1 h
       by_cases g2:Hid (j+1+1=es.length)
       ·have ke:((((j+1:Nat):Int))==((es.length:Int)-1))=true:=by have:=g2.out;simp;omega
        have g5:(((j:Int)+1)==((es.length:Int)-1))=true:=by have:=g2.out;simp;omega
        have HR:Hid (zb=false):=HN.out (j+1) x hx fun h=>by exact g1 (h.last.mpr g2.out)
        clear HZ HN ak
        refine wp_region_quiet_below (by kernel_rfl) (by kernel_rfl) ?_
        repeat (first|go_big_quiet_step ((go_at_call 66;exact cE _ _))|quiet_step ((go_at_call 66;exact cE _ _)))
        refine wpQuiet_nil ?_
        rintro _ ⟨⟨dq,aQ⟩,rfl⟩
        go_wp2
        go_ret
        exact⟨ret_bool HR.out.symm,HX.out dq aQ⟩
       ·have ke:((((j+1:Nat):Int))==((es.length:Int)-1))=false:=by have tI:¬(j+1+1=es.length):=fun h=>g2 h;simp;omega
        have g5:(((j:Int)+1)==((es.length:Int)-1))=false:=by have tI:¬(j+1+1=es.length):=fun h=>g2 h;simp;omega
        have HR:Hid (∀i,i<j+1+1->∀y,es[i]? =some y->StepM r.rules es i y):=fun i hi y hy=>by
         by_cases e:i=j+1
         ·subst e;rw[hx]at hy;obtain rfl:=osi hy;exact⟨hbe,fun i p hi hp=>by obtain rfl:i=j:=(by omega);rw[hq]at hp;obtain rfl:=osi hp;exact hu,⟨fun h=>absurd h g1,fun h=>absurd h g2⟩,fun h=>absurd h g2⟩
         ·exact ak.out i (by omega) y hy
        clear HZ HN ak
        refine wp_region_quiet_below (by kernel_rfl) (by kernel_rfl) ?_
        repeat (first|go_big_quiet_step ((go_at_call 66;exact cE _ _))|quiet_step ((go_at_call 66;exact cE _ _)))
        refine wpQuiet_nil ?_
        rintro _ ⟨⟨dq,aQ⟩,rfl⟩
        have ac:=below_regrown V dq aQ
        go_wp2
        go_roundw
        case rel=>exact⟨j+1+1,by omega,by go_num,HR,(qtr fu ac)⟩
        case measure=>simp[intOf];omega
     ·have KJ:decide (x.until_<=q.until_)=true:=by simpa using hu
      have HR:Hid (zb=false):=HN.out (j+1) x hx fun h=>by exact hu (h.up j q rfl hq)
      clear HZ HN ak
      refine wp_region_quiet_below (by kernel_rfl) (by kernel_rfl) ?_
      repeat (first|go_big_quiet_step ((go_at_call 66;exact cE _ _))|quiet_step ((go_at_call 66;exact cE _ _)))
      refine wpQuiet_nil ?_
      rintro _ ⟨⟨dq,aQ⟩,rfl⟩
      go_wp2
      go_ret
      exact⟨ret_bool HR.out.symm,HX.out dq aQ⟩
  ·have e:k=es.length:=by omega
   subst e
   have HR:Hid (zb=true):=HZ.out fun j y hy=>ak.out j (lgs hy).1 y hy
   go_wp2
   go_ret
   exact⟨ret_bool HR.out.symm,bQ.trans (hB.mono bQ.size)⟩
theorem jq3{α:Type}[DecidableEq α][Inhabited α](zs:List α):(Lib.compact zs).length=zs.length↔∀j,j<zs.length->Lib.keeps zs.toArray j=true:=by
 unfold Lib.compact Lib.compactUpTo
 rw[llm]
 have h:=List.length_filter_eq_length_iff (p:=Lib.keeps zs.toArray) (l:=List.range zs.length)
 rw[List.length_range]at h
 rw[h]
 exact⟨fun h j hj=>h j (List.mem_range.mpr hj),fun h j hj=>h j (List.mem_range.mp hj)⟩
theorem joc{α:Type}[DecidableEq α][Inhabited α](zs:List α)(j:Nat)(hj:j<zs.length):Lib.keeps zs.toArray j=true↔(j=0\/zs[j]? ≠zs[j-1]?):=by
 unfold Lib.keeps
 rw[decide_eq_true_iff]
 have e:∀i,i<zs.length->zs.toArray[i]! =zs[i]! :=fun i hi=>by simp[hi]
 rw[e j hj,e (j-1) (by omega)]
 have e2:∀i (hi:i<zs.length),zs[i]! =zs[i]:=fun i hi=>by simp[hi]
 rw[e2 j hj,e2 (j-1) (by omega),lgg hj,lgg (show j-1<zs.length by omega)]
 simp
theorem jii{l:List (List UInt8)}(hs:l.Pairwise (· <= ·)):(∀j,j<l.length->(j=0\/l[j]? ≠l[j-1]?))↔l.Nodup:=by
 constructor
 ·intro h
  rw[List.nodup_iff_pairwise_ne,List.pairwise_iff_getElem]
  intro i j hi hj eF he
  rw[List.pairwise_iff_getElem]at hs
  have h1:l[i]<=l[i+1]:=hs i (i+1) hi (by omega) (by omega)
  have h2:l[i+1]<=l[j]:=by
   by_cases e:i+1=j
   ·subst e;exact List.le_refl _
   ·exact hs (i+1) j (by omega) hj (by omega)
  rw[<- he]at h2
  have e3:l[i+1]=l[i]:=List.le_antisymm h2 h1
  rcases h (i+1) (by omega)with h4|h4
  ·omega
  ·apply h4
   rw[show i+1-1=i by omega,lgg (show i+1<l.length by omega),lgg hi,e3]
 ·intro h j hj
  by_cases e:j=0
  ·exact .inl e
  ·right
   rw[lgg hj,lgg (show j-1<l.length by omega)]
   intro he
   rw[List.nodup_iff_pairwise_ne,List.pairwise_iff_getElem]at h
   exact h (j-1) j (by omega) hj (by omega) (osi he).symm
theorem jlx(l:List (List UInt8)):(l.mergeSort fun x y=>decide (x<=y)).Pairwise (· <= ·):=by
 have:=List.pairwise_mergeSort (le:=fun(x y:List UInt8)=>decide (x<=y)) (fun a b c h1 h2=>by
  simp at h1 h2 ⊢;exact List.le_trans h1 h2) (fun a b=>by
  simp only[Bool.or_eq_true,decide_eq_true_eq];exact List.le_total a b) l
 exact this.imp fun h=>by simpa using h
theorem jmo(l:List (List UInt8)):((Lib.compact (l.mergeSort fun x y=>decide (x<=y))).length=l.length)↔l.Nodup:=by
 have hl:(l.mergeSort fun x y=>decide (x<=y)).length=l.length:=List.length_mergeSort l
 rw[<- hl,jq3]
 have hp:=List.mergeSort_perm l (fun x y=>decide (x<=y))
 rw[<- hp.nodup_iff, <- jii (jlx l)]
 exact⟨fun h j hj=>(joc _ j hj).mp (h j hj),fun h j hj=>(joc _ j hj).mpr (h j hj)⟩
theorem jij(l:List (List UInt8)):(∀(k:Nat) x,l[k]? =some x->¬x∈l.take k)↔l.Nodup:=by
 rw[List.nodup_iff_pairwise_ne,List.pairwise_iff_getElem]
 constructor
 ·intro h i j hi hj eF he
  refine h j l[j] (lgg hj) ?_
  rw[<- he]
  exact List.mem_take_iff_getElem.mpr ⟨i,by omega,rfl⟩
 ·intro h k x hk hm
  obtain⟨p9,rfl⟩:=lgs hk
  obtain⟨i,hi,he⟩:=List.mem_take_iff_getElem.mp hm
  exact h i k (by omega) p9 (by omega) he
def jgx(r:RelD):List ByteArray:=r.zones.map ZoneD.name++r.links.map LinkD.name
def jha(l:List ByteArray):List (List UInt8):=l.map (·.data.toList)
def jew(r:RelD):Bool:=decide (jha (jgx r)).Nodup
theorem jwn:∃i:TypeInfo,Tryz.prog.info? 9=some i/\i.zero=some (.string ⟨#[]⟩)/\i.size=1/\i.bytes=16:=⟨_,rfl,rfl,rfl,rfl⟩
theorem js4(w:World)(t:TypeId):(w.alloc (.cells #[] t)).ownsRow w.heap.size t 1 (.slice (some (ad w.heap.size 0)) 0 0) 0 []:=
 ⟨rfl,.inr ⟨w.heap.size,0,#[],rfl,nlr _,(MapKept.heap_alloc w _).1,nlr _,by unfold maxLen;omega,rfl,rfl⟩⟩
theorem jy8(w:World)(base:Nat)(t:TypeId):w.ownsRow base t 1 nS 0 []:=⟨rfl,.inl ⟨rfl,rfl⟩⟩
theorem jho{w:World}{base:Nat}{e:TypeId}{size:Nat}{v:Value}{n:Nat}{xs:List Value}(h:w.ownsRow base e size v n xs):∀k,v.ownBlock=some k->base<=k:=by
 intro k hk
 rcases h.2 with⟨rfl,_⟩|⟨g,cap,cur,rfl,hg,_⟩
 ·cases hk
 ·simp[Value.ownBlock]at hk;omega
theorem jeh{l:List ByteArray}{k:Nat}{x:ByteArray}(h:l[k]? =some x):(l.take (k+1)).map Value.string=(l.take k).map Value.string++[.string x]:=by
 rw[List.take_add_one,h];simp
theorem jhe(r:RelD)(v:Value)(w:World)(hv:Zd w v r)(hz:r.zones.length<=1048576)(hl:r.links.length<=1048576):
  Cl 102 #[v] w fun e w'=>e=.returned (.bool (jew r))/\Bw w w':=by
 obtain⟨a,b,c,ca,cb,cc,rfl,_,hZ,hA⟩:=hv.form
 obtain⟨i0,hi,aG,aH,aF⟩:=jwn
 clear hv
 have HB:Hid (jew r=decide (jha (r.zones.map ZoneD.name++r.links.map LinkD.name)).Nodup):=rfl
 generalize jew r=nb at *
 generalize r.rules.length=rn at *
 generalize r.links=l at *
 generalize r.zones=zs at *
 have ag:=qal w (.cells #[.slice a rn ca,.slice b zs.length cb,.slice c l.length cc] 37)
 have eL:=hA.below ag
 have j8:=hZ.below ag
 have ai:(w.alloc (.cells #[.slice a rn ca,.slice b zs.length cb,.slice c l.length cc] 37)).cell? (ad w.heap.size 2)=some (.slice c l.length cc):=by simp
 unfold Cl;go_in
 go_wp2
 generalize hW:(w.alloc (.cells #[.slice a rn ca,.slice b zs.length cb,.slice c l.length cc] 37))=W at *
 go_loopw [3,12] (fun s i wr=>∃k:Nat,k<=zs.length/\i=iv k/\wr.ownsRow W.heap.size 9 1 s k (((zs.map ZoneD.name).take k).map Value.string)/\Bw W wr) (fun _ i _=>zs.length-(intOf i).toNat)
 case atStart=>exact⟨0,by omega,rfl,jy8 _ _ _,by subst hW;exact brf _ _⟩
 case round=>
  obtain⟨k,hk,rfl,hO,hB⟩:=hrel
  by_cases hlt:k<zs.length
  ·obtain⟨x,hx⟩:=qgg hlt
   obtain⟨b',o,rfl,c0,v,c1,hv⟩:=(j8.below hB).at hx
   have hs:=jeh (l:=zs.map ZoneD.name) (k:=k) (x:=x.name) (by rw[lgm,hx];rfl)
   have HS:=hid hs
   obtain⟨ae,ce,rfl,_⟩:=hv
   clear hs
   have hsz:=hB.size
   generalize ((zs.map ZoneD.name).take k).map Value.string=xs at *
   go_wp2_with (first
    |(at_builtin;refine wpList_append_own _ rfl _ _ 74 rfl W.heap.size 9 i0 (.string ⟨#[]⟩) 1 16 Tryz.underlying74 hi aG aH aF rfl (by decide) _ _ _ rfl ((hO.alloc _).alloc _) ⟨wr.heap.size+1,0,none⟩ 1 1 [.string x.name] rfl rfl ?c1 ?c2 ?c3 ?c4 ?c5 ?_)
    |fail)
   case c1=>simp[go_sem]
   case c2=>intro u hu;simp at hu;subst hu;rfl
   case c3=>unfold maxLen;omega
   case c4=>omega
   case c5=>simp;omega
   ·intro v' w1 ao af _
    have aj:Bw W w1:=((hB.alloc hsz _).alloc (by simp;omega) _).grown af (by simp;omega) (jho hO)
    clear af hO
    go_wp2
    go_roundw
    case rel=>exact⟨k+1,by omega,by go_num,by rw[HS.out];exact ao,aj⟩
    case measure=>simp[intOf];omega
  ·have e:k=zs.length:=by omega
   subst e
   rw[List.take_of_length_le (by simp)]at hO
   have y2:wr.cell? (ad w.heap.size 2)=some (.slice c l.length cc):=by rw[(jaf hB).1 _ _ (qbl ai)];exact ai
   go_wp2
   obtain⟨wo,rfl⟩:=qea wr
   go_loopw [3,25] (fun s i wr=>∃k:Nat,k<=l.length/\i=iv k/\wr.ownsRow W.heap.size 9 1 s (zs.length+k) ((zs.map ZoneD.name++(l.map LinkD.name).take k).map Value.string)/\Bw W wr) (fun _ i _=>l.length-(intOf i).toNat)
   case atStart=>exact⟨0,by omega,rfl,by simpa using hO,hB⟩
   case round=>
    clear hO hB y2
    obtain⟨m,hm,rfl,hO,hB⟩:=hrel
    by_cases hlt2:m<l.length
    ·obtain⟨x,hx⟩:=qgg hlt2
     obtain⟨b',o,rfl,hc⟩:=(eL.below hB).at (i:=m) (r:=x.cs) (by rw[lgm,hx];rfl)
     have c0:wr.cell? (ad b' (o+m*2))=some (.string x.to_):=hc 0 _ rfl
     have c1:=hc 1 _ rfl
     clear hc
     have hs:=jeh (l:=l.map LinkD.name) (k:=m) (x:=x.name) (by rw[lgm,hx];rfl)
     have HS:Hid ((zs.map ZoneD.name++(l.map LinkD.name).take (m+1)).map Value.string=(zs.map ZoneD.name++(l.map LinkD.name).take m).map Value.string++[.string x.name]):=by
      simp only[Hid];rw[lma,hs, <- List.append_assoc, <- lma]
     clear hs
     have hsz:=hB.size
     generalize (zs.map ZoneD.name++(l.map LinkD.name).take m).map Value.string=xs at *
     obtain⟨n,hn⟩:∃n,n=zs.length+m:=⟨_,rfl⟩
     have HN:Hid (zs.length+(m+1)=n+1):=by simp only[Hid];omega
     have gF:n<=2097152:=by omega
     rw[<- hn]at hO
     clear hn
     go_wp2_with (first
      |(at_builtin;refine wpList_append_own _ rfl _ _ 74 rfl W.heap.size 9 i0 (.string ⟨#[]⟩) 1 16 Tryz.underlying74 hi aG aH aF rfl (by decide) _ _ _ rfl ((hO.alloc _).alloc _) ⟨wr.heap.size+1,0,none⟩ 1 1 [.string x.name] rfl rfl ?c1 ?c2 ?c3 ?c4 ?c5 ?_)
      |fail)
     case c1=>simp[go_sem]
     case c2=>intro u hu;simp at hu;subst hu;rfl
     case c3=>unfold maxLen;omega
     case c4=>omega
     case c5=>simp;omega
     ·intro v' w1 ao af _
      have aj:Bw W w1:=((hB.alloc hsz _).alloc (by simp;omega) _).grown af (by simp;omega) (jho hO)
      clear af hO
      go_wp2
      go_roundw
      case rel=>exact⟨m+1,by omega,by go_num,by rw[HS.out,HN.out];exact ao,aj⟩
      case measure=>simp[intOf];omega
    ·have e:m=l.length:=by omega
     subst e
     rw[List.take_of_length_le (by simp)]at hO
     obtain⟨n,hn⟩:∃n,n=zs.length+l.length:=⟨_,rfl⟩
     have gF:n<=2097152:=by omega
     rw[<- hn]at hO
     have au:(zs.map ZoneD.name++l.map LinkD.name).length=n:=by simp[hn]
     generalize zs.map ZoneD.name++l.map LinkD.name=ns at *
     clear hn
     have Bt:=hO
     rw[<- Lib.map_encStr]at Bt
     rcases hO.2 with⟨rfl,rfl⟩|⟨g,cap,cur,rfl,_,_,_,_,_,_⟩
     ·have HR:Hid (nb=true):=by
       simp only[Hid];rw[HB.out,List.eq_nil_of_length_eq_zero au];rfl
      have hS:=fun w=>Tryz.slices_Sort_string_none none 0 w
      have hC:=fun w=>Tryz.slices_Compact_string_empty none 0 w
      go_wp2_with (first|(go_at_call 140;refine(hS _).mono ?_;rintro e w' ⟨rfl,rfl⟩)|(go_at_call 141;refine(hC _).mono ?_;rintro e w' ⟨rfl,rfl⟩))
      go_ret
      exact⟨ret_bool HR.out.symm,(qtr ag hB)⟩
     ·obtain⟨g',fK,he,xT,mB,vo,qw,sP,hH⟩:=Lib.holds_of_ownsRow Bt (by simp)
      injection he with he1 _ iI
      injection he1 with he1
      injection he1 with he1
      subst he1 iI
      have hS:=Tryz.slices_Sort_string g 0 cap (ns.map (·.data.toList)) wr hH mB (by omega)
      rw[sP]at hS
      have iP:((ns.map (·.data.toList)).mergeSort fun x y=>decide (x<=y)).length=n:=by rw[List.length_mergeSort];exact sP
      have hC:=fun w' iZ=>Tryz.slices_Compact_string g 0 cap ((ns.map (·.data.toList)).mergeSort fun x y=>decide (x<=y)) w' iZ (by omega) (by omega)
      have hK:=jmo (ns.map (·.data.toList))
      rw[sP]at hK
      have JA:∀q os,Go.Sort.Holds encStr (Go.Sort.grow (Go.Sort.putRow encStr (Go.Sort.ahead wr q) g 0 ((ns.map (·.data.toList)).mergeSort fun x y=>decide (x<=y)).toArray) os) g 0 ((ns.map (·.data.toList)).mergeSort fun x y=>decide (x<=y)).toArray:=fun q os=>
       Go.Sort.holds_grow _ _ _ _ _ _ (by simpa using mB) (Go.Sort.holds_putRow _ _ _ _ _ _ (Go.Sort.holds_ahead _ _ _ _ _ _ hH) (by simp))
      rw[iP]at hC
      have HR:Hid (nb=(((Lib.compact ((ns.map (·.data.toList)).mergeSort fun x y=>decide (x<=y))).length:Int)==(n:Int))):=by
       simp only[Hid]
       rw[HB.out,Bool.eq_iff_iff]
       simp only[decide_eq_true_eq,beq_iff_eq,Int.natCast_inj]
       exact hK.symm
      have uQ:(Lib.compact ((ns.map (·.data.toList)).mergeSort fun x y=>decide (x<=y))).length<=n:=by
       unfold Lib.compact Lib.compactUpTo
       rw[llm]
       have:=List.length_filter_le (Lib.keeps ((ns.map (·.data.toList)).mergeSort fun x y=>decide (x<=y)).toArray) (List.range ((ns.map (·.data.toList)).mergeSort fun x y=>decide (x<=y)).length)
       rw[List.length_range]at this
       exact Nat.le_trans this (Nat.le_of_eq iP)
      generalize (ns.map (·.data.toList)).mergeSort (fun x y=>decide (x<=y))=so at *
      generalize (Lib.compact so).length=cl at *
      clear hO Bt hH hK HB iP sP au
      go_wp2_with fail
      refine hS.mono ?_
      rintro e w2 ⟨rfl,q,os,rfl⟩
      go_wp2_with fail
      refine(hC _ (JA q os)).mono ?_
      rintro e w3 ⟨rfl,q2,rfl⟩
      go_wp2
      go_ret
      refine⟨ret_bool HR.out.symm,ag.trans (Below.mono (Lib.below_putRow ?_ xT) ag.size)⟩
      have hb1:=Lib.below_putRow (enc:=encStr) (q:=q) (d:=so.toArray) hB xT
      exact⟨hb1.os,hb1.tape,hb1.output,by simp;have:=hb1.size;simp at this;omega,fun k hk=>by rw[Go.Sort.heap_grow_old _ _ (by have:=hb1.size;omega)];exact hb1.block k hk⟩
def relB(r:RelD):Bool:=decide (r.rules.length<=40/\r.zones.length<=12/\r.links.length<=20)&&(r.rules.all jaw&&(r.zones.all jbh&&(r.links.all jes&&(jew r&&((r.zones.all fun z=>z.eras.all (jb0 r.rules))&&(r.links.all fun x=>hasZ r.zones x.to_))))))
theorem rel_no0{r:RelD}(h:¬(r.rules.length<=40/\r.zones.length<=12/\r.links.length<=20)):relB r=false:=by unfold relB;rw[dfe h];rfl
theorem rel_no1{r:RelD}(h:r.rules.all jaw=false):relB r=false:=by unfold relB;rw[h];simp
theorem rel_no2{r:RelD}(h:r.zones.all jbh=false):relB r=false:=by unfold relB;rw[h];simp
theorem rel_no3{r:RelD}(h:r.links.all jes=false):relB r=false:=by unfold relB;rw[h];simp
theorem rel_no4{r:RelD}(h:jew r=false):relB r=false:=by unfold relB;rw[h];simp
theorem rel_no5{r:RelD}(h:(r.zones.all fun z=>z.eras.all (jb0 r.rules))=false):relB r=false:=by unfold relB;rw[h];simp
theorem rel_no6{r:RelD}(h:(r.links.all fun x=>hasZ r.zones x.to_)=false):relB r=false:=by unfold relB;rw[h];simp
theorem rel_yes{r:RelD}(h0:r.rules.length<=40/\r.zones.length<=12/\r.links.length<=20)(h1:r.rules.all jaw=true)(h2:r.zones.all jbh=true)(h3:r.links.all jes=true)(h4:jew r=true)(h5:(r.zones.all fun z=>z.eras.all (jb0 r.rules))=true)(h6:(r.links.all fun x=>hasZ r.zones x.to_)=true):relB r=true:=by unfold relB;rw[dte h0,h1,h2,h3,h4,h5,h6];rfl
theorem jbr(r:RelD)(v:Value)(w:World)(hE:Zx w)(hv:Zd w v r)(ok:r.ok)(sm:r.small)(di:∀x∈r.rules,x.on.size<=1048576):
  Cl 76 #[v] w fun e w'=>e=.returned (.bool (relB r))/\Bw w w':=by
 obtain⟨a,b,c,ca,cb,cc,jH,fR,iw,kh⟩:=hv.form
 obtain⟨⟨p1,p2⟩,⟨q1,q2⟩,⟨s1,s2⟩⟩:=ok
 obtain⟨m1,m2,m3,m4⟩:=sm
 have ag:=qal w (.cells #[.slice a r.rules.length ca,.slice b r.zones.length cb,.slice c r.links.length cc] 37)
 have hR:=fun w hE (h:Za w a 9 (r.rules.map RuleD.cs))=>jop r.rules a ca w hE h p2 di m1
 have hZ:=fun w (h:Zo w b r.zones)=>jon r.zones b cb w h q2 m2
 have hK:=fun w (h:Za w c 2 (r.links.map LinkD.cs))=>joq r.links c cc w h s2 m3
 have hU:=fun w (h:Zd w v r)=>jhe r v w h m2 m3
 have hT:=fun w (h:Zd w v r)=>ji6 r v w h m1 m2 q2
 have hY:=fun w (h:Zd w v r)=>ji1 r v w h m2 m3
 subst jH
 have N0:=@rel_no0 r
 have N1:=@rel_no1 r
 have N2:=@rel_no2 r
 have N3:=@rel_no3 r
 have N4:=@rel_no4 r
 have N5:=@rel_no5 r
 have N6:=@rel_no6 r
 have YY:=@rel_yes r
 generalize relB r=rb at *
 by_cases J1:40<r.rules.length
 ·have HR:Hid (rb=false):=N0 (by omega)
  clear N0 N1 N2 N3 N4 N5 N6 YY
  unfold Cl;go_in
  go_wp2
  go_ret
  exact⟨ret_bool HR.out.symm,ag⟩
 by_cases IY:12<r.zones.length
 ·have HR:Hid (rb=false):=N0 (by omega)
  clear N0 N1 N2 N3 N4 N5 N6 YY
  unfold Cl;go_in
  go_wp2
  go_ret
  exact⟨ret_bool HR.out.symm,ag⟩
 by_cases IZ:20<r.links.length
 ·have HR:Hid (rb=false):=N0 (by omega)
  clear N0 N1 N2 N3 N4 N5 N6 YY
  unfold Cl;go_in
  go_wp2
  go_ret
  exact⟨ret_bool HR.out.symm,ag⟩
 obtain⟨x0,y0,z0⟩:(fun z:World=>z.cell? (ad w.heap.size 0)=some (.slice a r.rules.length ca)/\z.cell? (ad w.heap.size 1)=some (.slice b r.zones.length cb)/\z.cell? (ad w.heap.size 2)=some (.slice c r.links.length cc)) (w.alloc (.cells #[.slice a r.rules.length ca,.slice b r.zones.length cb,.slice c r.links.length cc] 37)):=by simp[go_sem]
 cases k1:r.rules.all jaw
 ·have HR:Hid (rb=false):=N1 k1
  rw[k1]at hR
  clear N0 N1 N2 N3 N4 N5 N6 YY
  clear k1
  unfold Cl;go_in
  go_wp2_with fail
  refine(hR _ (hE.of_below ag) (fR.below ag)).mono ?_
  rintro e w1 ⟨rfl,hb1⟩
  have aj:=qtr ag hb1
  go_wp2
  go_ret
  exact⟨ret_bool HR.out.symm,aj⟩
 rw[k1]at hR
 cases k2:r.zones.all jbh
 ·have HR:Hid (rb=false):=N2 k2
  rw[k2]at hZ
  clear N0 N1 N2 N3 N4 N5 N6 YY
  clear k1 k2
  unfold Cl;go_in
  go_wp2_with fail
  refine(hR _ (hE.of_below ag) (fR.below ag)).mono ?_
  rintro e w1 ⟨rfl,hb1⟩
  have aj:=qtr ag hb1
  have x1:=qce hb1 x0 x0
  have y1:=qce hb1 y0 y0
  have z1:=qce hb1 z0 z0
  go_wp2_with fail
  refine(hZ _ (iw.below aj)).mono ?_
  rintro e w2 ⟨rfl,ac⟩
  have an:=qtr aj ac
  go_wp2
  go_ret
  exact⟨ret_bool HR.out.symm,an⟩
 rw[k2]at hZ
 cases k3:r.links.all jes
 ·have HR:Hid (rb=false):=N3 k3
  rw[k3]at hK
  clear N0 N1 N2 N3 N4 N5 N6 YY
  clear k1 k2 k3
  unfold Cl;go_in
  go_wp2_with fail
  refine(hR _ (hE.of_below ag) (fR.below ag)).mono ?_
  rintro e w1 ⟨rfl,hb1⟩
  have aj:=qtr ag hb1
  have x1:=qce hb1 x0 x0
  have y1:=qce hb1 y0 y0
  have z1:=qce hb1 z0 z0
  go_wp2_with fail
  refine(hZ _ (iw.below aj)).mono ?_
  rintro e w2 ⟨rfl,ac⟩
  have an:=qtr aj ac
  have x2:=qce ac x1 x1
  have y2:=qce ac y1 y1
  have z2:=qce ac z1 z1
  go_wp2_with fail
  refine(hK _ (kh.below an)).mono ?_
  rintro e w3 ⟨rfl,ar⟩
  have ax:=qtr an ar
  go_wp2
  go_ret
  exact⟨ret_bool HR.out.symm,ax⟩
 rw[k3]at hK
 cases k4:jew r
 ·have HR:Hid (rb=false):=N4 k4
  rw[k4]at hU
  clear N0 N1 N2 N3 N4 N5 N6 YY
  clear k1 k2 k3 k4
  unfold Cl;go_in
  go_wp2_with fail
  refine(hR _ (hE.of_below ag) (fR.below ag)).mono ?_
  rintro e w1 ⟨rfl,hb1⟩
  have aj:=qtr ag hb1
  have x1:=qce hb1 x0 x0
  have y1:=qce hb1 y0 y0
  have z1:=qce hb1 z0 z0
  go_wp2_with fail
  refine(hZ _ (iw.below aj)).mono ?_
  rintro e w2 ⟨rfl,ac⟩
  have an:=qtr aj ac
  have x2:=qce ac x1 x1
  have y2:=qce ac y1 y1
  have z2:=qce ac z1 z1
  go_wp2_with fail
  refine(hK _ (kh.below an)).mono ?_
  rintro e w3 ⟨rfl,ar⟩
  have ax:=qtr an ar
  have x3:=qce ar x2 x2
  have y3:=qce ar y2 y2
  have z3:=qce ar z2 z2
  go_wp2_with fail
  refine(hU _ (hv.below ax)).mono ?_
  rintro e w4 ⟨rfl,aD⟩
  have aR:=qtr ax aD
  go_wp2
  go_ret
  exact⟨ret_bool HR.out.symm,aR⟩
 rw[k4]at hU
 cases k5:(r.zones.all fun z=>z.eras.all (jb0 r.rules))
 ·have HR:Hid (rb=false):=N5 k5
  rw[k5]at hT
  clear N0 N1 N2 N3 N4 N5 N6 YY
  clear k1 k2 k3 k4 k5
  unfold Cl;go_in
  go_wp2_with fail
  refine(hR _ (hE.of_below ag) (fR.below ag)).mono ?_
  rintro e w1 ⟨rfl,hb1⟩
  have aj:=qtr ag hb1
  have x1:=qce hb1 x0 x0
  have y1:=qce hb1 y0 y0
  have z1:=qce hb1 z0 z0
  go_wp2_with fail
  refine(hZ _ (iw.below aj)).mono ?_
  rintro e w2 ⟨rfl,ac⟩
  have an:=qtr aj ac
  have x2:=qce ac x1 x1
  have y2:=qce ac y1 y1
  have z2:=qce ac z1 z1
  go_wp2_with fail
  refine(hK _ (kh.below an)).mono ?_
  rintro e w3 ⟨rfl,ar⟩
  have ax:=qtr an ar
  have x3:=qce ar x2 x2
  have y3:=qce ar y2 y2
  have z3:=qce ar z2 z2
  go_wp2_with fail
  refine(hU _ (hv.below ax)).mono ?_
  rintro e w4 ⟨rfl,aD⟩
  have aR:=qtr ax aD
  have x4:=qce aD x3 x3
  have y4:=qce aD y3 y3
  have z4:=qce aD z3 z3
  go_wp2_with fail
  refine(hT _ (hv.below aR)).mono ?_
  rintro e w5 ⟨rfl,aV⟩
  have bG:=qtr aR aV
  go_wp2
  go_ret
  exact⟨ret_bool HR.out.symm,bG⟩
 rw[k5]at hT
 cases k6:(r.links.all fun x=>hasZ r.zones x.to_)
 ·have HR:Hid (rb=false):=N6 k6
  rw[k6]at hY
  clear N0 N1 N2 N3 N4 N5 N6 YY
  clear k1 k2 k3 k4 k5 k6
  unfold Cl;go_in
  go_wp2_with fail
  refine(hR _ (hE.of_below ag) (fR.below ag)).mono ?_
  rintro e w1 ⟨rfl,hb1⟩
  have aj:=qtr ag hb1
  have x1:=qce hb1 x0 x0
  have y1:=qce hb1 y0 y0
  have z1:=qce hb1 z0 z0
  go_wp2_with fail
  refine(hZ _ (iw.below aj)).mono ?_
  rintro e w2 ⟨rfl,ac⟩
  have an:=qtr aj ac
  have x2:=qce ac x1 x1
  have y2:=qce ac y1 y1
  have z2:=qce ac z1 z1
  go_wp2_with fail
  refine(hK _ (kh.below an)).mono ?_
  rintro e w3 ⟨rfl,ar⟩
  have ax:=qtr an ar
  have x3:=qce ar x2 x2
  have y3:=qce ar y2 y2
  have z3:=qce ar z2 z2
  go_wp2_with fail
  refine(hU _ (hv.below ax)).mono ?_
  rintro e w4 ⟨rfl,aD⟩
  have aR:=qtr ax aD
  have x4:=qce aD x3 x3
  have y4:=qce aD y3 y3
  have z4:=qce aD z3 z3
  go_wp2_with fail
  refine(hT _ (hv.below aR)).mono ?_
  rintro e w5 ⟨rfl,aV⟩
  have bG:=qtr aR aV
  have x5:=qce aV x4 x4
  have y5:=qce aV y4 y4
  have z5:=qce aV z4 z4
  go_wp2_with fail
  refine(hY _ (hv.below bG)).mono ?_
  rintro e w6 ⟨rfl,hb6⟩
  have cp:=qtr bG hb6
  go_wp2
  go_ret
  exact⟨ret_bool HR.out.symm,cp⟩
 rw[k6]at hY
 have HR:Hid (rb=true):=YY (by omega) k1 k2 k3 k4 k5 k6
 clear N0 N1 N2 N3 N4 N5 N6 YY k1 k2 k3 k4 k5 k6
 unfold Cl;go_in
 go_wp2_with fail
 refine(hR _ (hE.of_below ag) (fR.below ag)).mono ?_
 rintro e w1 ⟨rfl,hb1⟩
 have aj:=qtr ag hb1
 have x1:=qce hb1 x0 x0
 have y1:=qce hb1 y0 y0
 have z1:=qce hb1 z0 z0
 go_wp2_with fail
 refine(hZ _ (iw.below aj)).mono ?_
 rintro e w2 ⟨rfl,ac⟩
 have an:=qtr aj ac
 have x2:=qce ac x1 x1
 have y2:=qce ac y1 y1
 have z2:=qce ac z1 z1
 go_wp2_with fail
 refine(hK _ (kh.below an)).mono ?_
 rintro e w3 ⟨rfl,ar⟩
 have ax:=qtr an ar
 have x3:=qce ar x2 x2
 have y3:=qce ar y2 y2
 have z3:=qce ar z2 z2
 go_wp2_with fail
 refine(hU _ (hv.below ax)).mono ?_
 rintro e w4 ⟨rfl,aD⟩
 have aR:=qtr ax aD
 have x4:=qce aD x3 x3
 have y4:=qce aD y3 y3
 have z4:=qce aD z3 z3
 go_wp2_with fail
 refine(hT _ (hv.below aR)).mono ?_
 rintro e w5 ⟨rfl,aV⟩
 have bG:=qtr aR aV
 have x5:=qce aV x4 x4
 have y5:=qce aV y4 y4
 have z5:=qce aV z4 z4
 go_wp2_with fail
 refine(hY _ (hv.below bG)).mono ?_
 rintro e w6 ⟨rfl,hb6⟩
 have cp:=qtr bG hb6
 go_wp2
 go_ret
 exact⟨ret_bool HR.out.symm,cp⟩
theorem jkz{l:List Nat}{x:Nat}(h:x∈l):x<=l.sum:=by
 induction l with
 |nil=>cases h
 |cons a l ih=>
  rw[List.sum_cons]
  rcases List.mem_cons.mp h with rfl|h
  ·omega
  ·have:=ih h;omega
theorem jng{r:RelD}(h:r.sz<=1048576):r.small/\∀x∈r.rules,x.on.size<=1048576:=by
 unfold RelD.sz at h
 refine⟨⟨by omega,by omega,by omega,fun z hz=>?_⟩,fun x hx=>?_⟩
 ·have h1:z.sz<=zsz r.zones:=jkz (List.mem_map.mpr ⟨z,hz,rfl⟩)
  have h2:z.eras.length<=z.sz:=by unfold ZoneD.sz;omega
  omega
 ·have h1:x.sz<=rsz r.rules:=jkz (List.mem_map.mpr ⟨x,hx,rfl⟩)
  have h2:x.on.size<=x.sz:=by unfold RuleD.sz;omega
  omega
theorem jf6{w w':World}{base:Nat}{e:TypeId}{size:Nat}{v:Value}{n:Nat}{xs:List Value}(h:w.ownsRow base e size v n xs)(hb:Bw w w'):w'.ownsRow base e size v n xs:=by
 refine⟨h.1,?_⟩
 rcases h.2 with h2|⟨g,cap,cur,hv,hg,hh,rest⟩
 ·exact .inl h2
 ·refine .inr ⟨g,cap,cur,hv,hg,?_,rest⟩
  rw[hb.block g (by
   rcases Nat.lt_or_ge g w.heap.size with h'|h'
   ·exact h'
   ·rw[Array.getElem?_eq_none h']at hh;cases hh)]
  exact hh
theorem jni{w:World}{base:Nat}{e:TypeId}{size:Nat}{v:Value}{n:Nat}{xs:List Value}(h:w.ownsRow base e size v n xs)(hn:0<n):∃g cap,v=so g n cap:=by
 rcases h.2 with⟨_,h0⟩|⟨g,cap,_,hv,_⟩
 ·omega
 ·exact⟨g,cap,hv⟩
theorem jvq{w:World}{base:Nat}{e:TypeId}{g cap n:Nat}{ss:List ByteArray}(h:w.ownsRow base e 1 (so g n cap) n (ss.map Value.string)):Jm w (some (ad g 0)) ss/\n<=cap/\ss.length=n:=by
 have hl:ss.length=n:=by simpa using h.1
 rcases h.2 with⟨h0,_⟩|⟨g',fK,cur,hv,hg,hh,hc,hm,hs,ht⟩
 ·cases h0
 ·injection hv with h1 _ h3
  injection h1 with h1
  injection h1 with h1
  subst h1 h3
  refine⟨.inr ⟨g,0,rfl,fun i s hi=>?_⟩,hc,hl⟩
  have i7:=(lgs hi).1
  have e1:(cur.toList.take (n*1))[i]? =(ss.map Value.string)[i]? :=by rw[ht]
  rw[List.getElem?_take,if_pos (by omega),Array.getElem?_toList,lgm,hi]at e1
  simp only[World.cell?,hh,Nat.zero_add]
  simp only[Option.isSome_none,Bool.false_eq_true,if_false]
  exact e1
theorem jws{ss:List ByteArray}{t:ByteArray}:inB ss t=true↔t.data.toList∈jha ss:=by
 unfold inB jha
 rw[List.any_eq_true,List.mem_map]
 constructor
 ·rintro⟨x,hx,he⟩
  exact⟨x,hx,by rw[beq_iff_eq,ByteArray.toList_eq,ByteArray.toList_eq]at he;exact he⟩
 ·rintro⟨x,hx,he⟩
  exact⟨x,hx,by rw[beq_iff_eq,ByteArray.toList_eq,ByteArray.toList_eq];exact he⟩
theorem jr7{zs:List ZoneD}{t:ByteArray}:inB (zs.map ZoneD.name) t=hasZ zs t:=by
 unfold inB hasZ
 rw[List.any_map]
 rfl
structure RelT(r:RelD):Prop where
 lens:r.rules.length<=40/\r.zones.length<=12/\r.links.length<=20
 rules:r.rules.all jaw=true
 zones:r.zones.all jbh=true
 links:r.links.all jes=true
 names:jew r=true
 there:(r.zones.all fun z=>z.eras.all (jb0 r.rules))=true
 has:(r.links.all fun x=>hasZ r.zones x.to_)=true
theorem j01{r:RelD}(h:relB r=true):RelT r:=by
 unfold relB at h
 simp only[bat,decide_eq_true_eq]at h
 obtain⟨h0,h1,h2,h3,h4,h5,h6⟩:=h
 exact⟨h0,h1,h2,h3,h4,h5,h6⟩
theorem jie{r:RelD}(h:RelT r->False):relB r=false:=by
 cases hb:relB r
 ·rfl
 ·exact(h (j01 hb)).elim
theorem jy0{r:RelD}{k:Nat}{x:RuleD}(hk:r.rules[k]? =some x)(h:jaw x=false):relB r=false:=rel_no1 (jg5 hk h)
theorem jyz{r:RelD}{k:Nat}{z:ZoneD}(hk:r.zones[k]? =some z)(h:jb7 r.rules z=false):relB r=false:=jie fun t=>by
 have:=(jkj t.rules).mp ⟨t.zones,t.there⟩ z (lmg hk)
 rw[jmv this]at h;cases h
theorem jy1{r:RelD}{k:Nat}{x:LinkD}(hk:r.links[k]? =some x)(h:jaz x.name=false\/inB (r.zones.map ZoneD.name) x.to_=false):relB r=false:=jie fun t=>by
 have h1:=List.all_eq_true.mp t.links x (lmg hk)
 have h2:=List.all_eq_true.mp t.has x (lmg hk)
 unfold jes at h1
 simp only[bat]at h1
 rcases h with h|h
 ·rw[h1.2]at h;cases h
 ·rw[jr7,h2]at h;cases h
theorem jk1(l:List ByteArray)(k:Nat):jha (l.take k)=(jha l).take k:=by unfold jha;rw[List.map_take]
theorem j1u{r:RelD}{k:Nat}{x:ByteArray}(hk:(jgx r)[k]? =some x)(h:inB ((jgx r).take k) x=true):relB r=false:=jie fun t=>by
 have hn:(jha (jgx r)).Nodup:=by have:=t.names;unfold jew at this;exact odt this
 rw[jws,jk1]at h
 exact(jij _).mpr hn k x.data.toList (by unfold jha;rw[lgm,hk];rfl) h
theorem j1v {r:RelD} (h0:r.rules.length<=40/\r.zones.length<=12/\r.links.length<=20) (h1:∀(k:Nat) x,r.rules[k]? =some x->jaw x=true) (h2:∀(k:Nat) z,r.zones[k]? =some z->jb7 r.rules z=true)
  (h3:∀(k:Nat) x,r.links[k]? =some x->jaz x.name=true/\inB (r.zones.map ZoneD.name) x.to_=true) (h4:∀(k:Nat) x,(jgx r)[k]? =some x->inB ((jgx r).take k) x=false):relB r=true:=by
 have k1:r.rules.all jaw=true:=jed fun j _ x hx=>h1 j x hx
 have kz:∀z∈r.zones,ZoneM r.rules z:=fun z hz=>by
  obtain⟨k,hk⟩:=lgo hz
  exact zoneMB_iff.mp (h2 k z hk)
 obtain⟨k2,k5⟩:=(jkj k1).mpr kz
 obtain⟨k3,k6⟩:=(jth (ls:=r.links) fun z hz=>(kz z hz).name).mpr fun x hx=>by
  obtain⟨k,hk⟩:=lgo hx
  have:=h3 k x hk
  rw[jr7]at this
  exact this
 refine rel_yes h0 k1 k2 k3 ?_ k5 k6
 unfold jew
 refine dte ((jij _).mp fun k x hk hm=>?_)
 unfold jha at hk
 rw[lgm]at hk
 obtain⟨y,hy,rfl⟩:=Option.map_eq_some_iff.mp hk
 have:=h4 k y hy
 rw[<- jk1, <- jws]at hm
 rw[this]at hm;cases hm
theorem jc7(r:RelD)(v:Value)(w:World)(hv:Zd w v r)(ok:r.ok)(sm:r.small)(di:∀x∈r.rules,x.on.size<=1048576):
  Cl 12 #[v] w fun e w'=>e=.returned (.bool (relB r))/\Bw w w':=by
 obtain⟨a,b,c,ca,cb,cc,jH,fR,iw,kh⟩:=hv.form
 obtain⟨⟨p1,p2⟩,⟨q1,q2⟩,⟨s1,s2⟩⟩:=ok
 obtain⟨m1,m2,m3,m4⟩:=sm
 obtain⟨i0,hi,aG,aH,aF⟩:=jwn
 have ag:=qal w (.cells #[.slice a r.rules.length ca,.slice b r.zones.length cb,.slice c r.links.length cc] 37)
 have N0:=@rel_no0 r
 have rO:Hid (∀(k:Nat) (x:RuleD),r.rules[k]? =some x->jaw x=false->relB r=false):=fun k x h1 h2=>jy0 h1 h2
 have gK:Hid (∀(k:Nat) (z:ZoneD),r.zones[k]? =some z->jb7 r.rules z=false->relB r=false):=fun k x h1 h2=>jyz h1 h2
 have jt:Hid (∀(k:Nat) (x:LinkD),r.links[k]? =some x->(jaz x.name=false\/inB (r.zones.map ZoneD.name) x.to_=false)->relB r=false):=fun k x h1 h2=>jy1 h1 h2
 have nG:Hid (∀(k:Nat) (x:ByteArray),(r.zones.map ZoneD.name++r.links.map LinkD.name)[k]? =some x->inB ((r.zones.map ZoneD.name++r.links.map LinkD.name).take k) x=true->relB r=false):=fun k x h1 h2=>j1u h1 h2
 have HY:Hid ((r.rules.length<=40/\r.zones.length<=12/\r.links.length<=20)->(∀(k:Nat) x,r.rules[k]? =some x->jaw x=true)->(∀(k:Nat) z,r.zones[k]? =some z->jb7 r.rules z=true)->
  (∀(k:Nat) x,r.links[k]? =some x->jaz x.name=true/\inB (r.zones.map ZoneD.name) x.to_=true)->(∀(k:Nat) x,(r.zones.map ZoneD.name++r.links.map LinkD.name)[k]? =some x->inB ((r.zones.map ZoneD.name++r.links.map LinkD.name).take k) x=false)->relB r=true):=fun h0 h1 h2 h3 h4=>j1v h0 h1 h2 h3 h4
 generalize relB r=rb at *
 subst jH
 by_cases J1:40<r.rules.length
 ·have HR:Hid (rb=false):=N0 (by omega)
  clear N0 rO gK jt nG HY
  unfold Cl;go_in
  go_wp2
  go_ret
  exact⟨ret_bool HR.out.symm,ag⟩
 by_cases IY:12<r.zones.length
 ·have HR:Hid (rb=false):=N0 (by omega)
  clear N0 rO gK jt nG HY
  unfold Cl;go_in
  go_wp2
  go_ret
  exact⟨ret_bool HR.out.symm,ag⟩
 by_cases IZ:20<r.links.length
 ·have HR:Hid (rb=false):=N0 (by omega)
  clear N0 rO gK jt nG HY
  unfold Cl;go_in
  go_wp2
  go_ret
  exact⟨ret_bool HR.out.symm,ag⟩
 clear N0
 obtain⟨x0,y0,z0⟩:(fun z:World=>z.cell? (ad w.heap.size 0)=some (.slice a r.rules.length ca)/\z.cell? (ad w.heap.size 1)=some (.slice b r.zones.length cb)/\z.cell? (ad w.heap.size 2)=some (.slice c r.links.length cc)) (w.alloc (.cells #[.slice a r.rules.length ca,.slice b r.zones.length cb,.slice c r.links.length cc] 37)):=by simp[go_sem]
 have HL:Hid (r.rules.length<=40/\r.zones.length<=12/\r.links.length<=20):=by simp only[Hid];omega
 have nZ:=js4 (w.alloc (.cells #[.slice a r.rules.length ca,.slice b r.zones.length cb,.slice c r.links.length cc] 37)) 9
 have BL:=(brf (w.alloc (.cells #[.slice a r.rules.length ca,.slice b r.zones.length cb,.slice c r.links.length cc] 37)).heap.size (w.alloc (.cells #[.slice a r.rules.length ca,.slice b r.zones.length cb,.slice c r.links.length cc] 37))).alloc (nlr _) (.cells #[] 9)
 have AS:=fR.below ag
 have AT:=iw.below ag
 have AR:=kh.below ag
 have ej:=hv.below ag
 clear fR iw kh hv
 have j6:Hid ((w.alloc (.cells #[.slice a r.rules.length ca,.slice b r.zones.length cb,.slice c r.links.length cc] 37)).heap.size=w.heap.size+1):=by simp[Hid]
 unfold Cl;go_in
 go_wp2
 generalize hW:(w.alloc (.cells #[.slice a r.rules.length ca,.slice b r.zones.length cb,.slice c r.links.length cc] 37))=W at *
 generalize j7:W.alloc (.cells #[] 9)=W1 at *
 go_loopw [4] (fun i wr=>∃k:Nat,k<=r.rules.length/\i=iv k/\Hid (∀j,j<k->∀x,r.rules[j]? =some x->jaw x=true)/\Bw W1 wr) (fun i _=>r.rules.length-(intOf i).toNat)
 case atStart=>exact⟨0,by omega,rfl,fun j hj=>by omega,by subst j7;exact brf _ _⟩
 case round=>
  obtain⟨k,hk,rfl,ak,aj⟩:=hrel
  have hB:=qtr BL aj
  have dr:=qtr ag hB
  have x1:=qce hB x0 x0
  have y1:=qce hB y0 y0
  have z1:=qce hB z0 z0
  by_cases hlt:k<r.rules.length
  ·obtain⟨x,hx⟩:=qgg hlt
   obtain⟨b',o,rfl,hc⟩:=(AS.below hB).at (i:=k) (r:=x.cs) (by rw[lgm,hx];rfl)
   have hS:=fun w=>jm9 x w (p2 x (lmg hx)) (di x (lmg hx))
   have c0:wr.cell? (ad b' (o+k*9))=some (.string x.name):=hc 0 _ rfl
   have c1:=hc 1 _ rfl
   have c2:=hc 2 _ rfl
   have c3:=hc 3 _ rfl
   have c4:=hc 4 _ rfl
   have c5:=hc 5 _ rfl
   have c6:=hc 6 _ rfl
   have c7:=hc 7 _ rfl
   have c8:=hc 8 _ rfl
   clear hc
   unfold RuleD.v at hS
   cases hb:jaw x
   ·have HR:Hid (rb=false):=rO.out k x hx hb
    rw[hb]at hS
    clear hb rO gK jt nG HY
    go_wp2_with fail
    refine(hS _).mono ?_
    rintro e w2 ⟨rfl,ac⟩
    go_wp2
    go_ret
    exact⟨ret_bool HR.out.symm,(qtr dr ac)⟩
   ·have HR:Hid (∀j,j<k+1->∀x,r.rules[j]? =some x->jaw x=true):=fun j hj y hy=>by
     by_cases e:j=k
     ·subst e;rw[hx]at hy;obtain rfl:=osi hy;exact hb
     ·exact ak.out j (by omega) y hy
    rw[hb]at hS
    clear hb
    go_wp2_with fail
    refine(hS _).mono ?_
    rintro e w2 ⟨rfl,ac⟩
    go_wp2
    go_roundw
    case rel=>exact⟨k+1,by omega,by go_num,HR,(qtr aj ac)⟩
    case measure=>simp[intOf];omega
  ·have e:k=r.rules.length:=by omega
   subst e
   have H1:Hid (∀(k:Nat) x,r.rules[k]? =some x->jaw x=true):=fun j x hx=>ak.out j (lgs hx).1 x hx
   have dW:=jf6 nZ aj
   clear ak rO
   go_wp2
   obtain⟨wo,rfl⟩:=qea wr
   go_loopw [3,5] (fun s i wr=>∃k:Nat,k<=r.zones.length/\i=iv k/\(∃g cap,s=so g k cap)/\wr.ownsRow W.heap.size 9 1 s k (((r.zones.map ZoneD.name).take k).map Value.string)/\Hid (∀j,j<k->∀x,r.zones[j]? =some x->jb7 r.rules x=true)/\Bw W wr) (fun _ i _=>r.zones.length-(intOf i).toNat)
   case atStart=>exact⟨0,by omega,rfl,⟨_,_,rfl⟩,by rw[<- j6.out];exact dW,fun j hj=>by omega,hB⟩
   case round=>
    clear dW nZ hB dr x1 y1 z1 aj
    obtain⟨k,hk,rfl,kB,hO,ak,hB⟩:=hrel
    have dr:=qtr ag hB
    have x1:=qce hB x0 x0
    have y1:=qce hB y0 y0
    have z1:=qce hB z0 z0
    by_cases hlt:k<r.zones.length
    ·obtain⟨x,hx⟩:=qgg hlt
     obtain⟨b',o,rfl,c0,u,c1,hu⟩:=(AT.below hB).at hx
     have vV:=q2 x (lmg hx)
     have cE:∀dd os,Cl 31 #[.agg #[.slice a r.rules.length ca,.slice (some (ad b' o)) r.zones.length cb,.slice c r.links.length cc],.agg #[.string x.name,u]] (grow (redrawn wr dd) os) fun e cW=>e=.returned (.bool (jb7 r.rules x))/\∃p:Regrown,cW=grow (redrawn wr p.d) p.os:=fun dd os=>Calls.regrown_of (jm8 r _ x u _ ((ej.below hB).below (below_regrown wr dd os)) (hu.below (below_regrown wr dd os)) vV m1)
     obtain⟨ae,ce,rfl,_⟩:=hu
     have kx:=cell_regrown x1
     have ky:=cell_regrown y1
     have kz:=cell_regrown z1
     have qT:=cell_regrown c0
     have qU:=cell_regrown c1
     cases hb:jb7 r.rules x
     ·have HR:Hid (rb=false):=gK.out k x hx hb
      rw[hb]at cE
      clear hb gK jt nG HY kB hO
      go_wp2_with fail
      refine wp_region_quiet_below (by kernel_rfl) (by kernel_rfl) ?_
      repeat (quiet_step ((go_at_call 31;exact cE _ _)))
      refine wpQuiet_nil ?_
      intro _ bM
      obtain⟨⟨dq,aQ⟩,aO⟩:=bM
      subst aO
      have ac:=below_regrown wr dq aQ
      go_wp2
      go_ret
      exact⟨ret_bool HR.out.symm,(qtr dr ac)⟩
     ·have HR:Hid (∀j,j<k+1->∀x,r.zones[j]? =some x->jb7 r.rules x=true):=fun j hj y hy=>by
       by_cases e:j=k
       ·subst e;rw[hx]at hy;obtain rfl:=osi hy;exact hb
       ·exact ak.out j (by omega) y hy
      rw[hb]at cE
      have hs:=jeh (l:=r.zones.map ZoneD.name) (k:=k) (x:=x.name) (by rw[lgm,hx];rfl)
      have HS:=hid hs
      clear hs hb kB
      go_wp2_with fail
      refine wp_region_quiet_below (by kernel_rfl) (by kernel_rfl) ?_
      repeat (quiet_step ((go_at_call 31;exact cE _ _)))
      refine wpQuiet_nil ?_
      intro V bM
      obtain⟨⟨dq,aQ⟩,aO⟩:=bM
      have ac:Bw wr V:=aO ▸ below_regrown wr dq aQ
      clear aO kx ky kz qT qU cE
      have an:=qtr hB ac
      have aW:=jf6 hO ac
      have x2:=qce ac x1 x1
      have y2:=qce ac y1 y1
      have d0:=qce ac c0 c0
      have hsz:=an.size
      clear ac hO x1 y1 z1 c0 c1
      generalize ((r.zones.map ZoneD.name).take k).map Value.string=xs at *
      go_wp2_with (first
       |(at_builtin;refine wpList_append_own _ rfl _ _ 74 rfl W.heap.size 9 i0 (.string ⟨#[]⟩) 1 16 Tryz.underlying74 hi aG aH aF rfl (by decide) _ _ _ rfl (aW.alloc _) ⟨V.heap.size,0,none⟩ 1 1 [.string x.name] rfl rfl ?c1 ?c2 ?c3 ?c4 ?c5 ?_)
       |fail)
      all_goals try go_simp
      case c2=>rfl
      case c3=>unfold maxLen;omega
      case c4=>omega
      case c5=>omega
      ·intro v' w3 ao af _
       have ax:Bw W w3:=(an.alloc hsz _).grown af (by simp;omega) (jho aW)
       clear af aW
       go_wp2
       go_roundw
       case rel=>exact⟨k+1,by omega,by go_num,jni ao (by omega),by rw[HS.out];exact ao,HR,ax⟩
       case measure=>simp[intOf];omega
    ·have e:k=r.zones.length:=by omega
     subst e
     have H2:Hid (∀(k:Nat) x,r.zones[k]? =some x->jb7 r.rules x=true):=fun j x hx=>ak.out j (lgs hx).1 x hx
     obtain⟨g0,Iu,rfl⟩:=kB
     rw[List.take_of_length_le (by simp)]at hO
     clear ak gK
     go_wp2
     obtain⟨Q7,rfl⟩:=qea wr
     go_loopw [3,7] (fun s i wr=>∃k:Nat,k<=r.links.length/\i=iv k/\(∃g cap,s=so g (r.zones.length+k) cap)/\wr.ownsRow W.heap.size 9 1 s (r.zones.length+k) ((r.zones.map ZoneD.name++(r.links.map LinkD.name).take k).map Value.string)/\Hid (∀j,j<k->∀x,r.links[j]? =some x->jaz x.name=true/\inB (r.zones.map ZoneD.name) x.to_=true)/\Bw W wr) (fun _ i _=>r.links.length-(intOf i).toNat)
     case atStart=>exact⟨0,by omega,rfl,⟨_,_,rfl⟩,by simpa using hO,fun j hj=>by omega,hB⟩
     case round=>
      clear hO hB dr x1 y1 z1
      obtain⟨k,hk,rfl,⟨g,cap,rfl⟩,hO,ak,hB⟩:=hrel
      have dr:=qtr ag hB
      have x1:=qce hB x0 x0
      have y1:=qce hB y0 y0
      have z1:=qce hB z0 z0
      obtain⟨xO,eh,au⟩:=jvq hO
      have mi:=xO.take r.zones.length
      rw[List.take_append_of_le_length (by simp),List.take_of_length_le (by simp)]at mi
      by_cases hlt:k<r.links.length
      ·obtain⟨x,hx⟩:=qgg hlt
       obtain⟨b',o,rfl,hc⟩:=(AR.below hB).at (i:=k) (r:=x.cs) (by rw[lgm,hx];rfl)
       have c0:wr.cell? (ad b' (o+k*2))=some (.string x.to_):=hc 0 _ rfl
       have c1:=hc 1 _ rfl
       clear hc
       have vV:=s2 x (lmg hx)
       have hN:=fun w=>jbu x.name w vV.2
       have hI:=fun n=>jkv (r.zones.map ZoneD.name) (some (ad g 0)) cap x.to_ (wr.drewN n) (mi.below (below_drewN (brf _ _) n)) (by simp;omega)
       rw[llm]at hI
       have j0:(0:Int)<=(r.zones.length:Int):=by omega
       have j1:(r.zones.length:Int)<=(cap:Int):=by omega
       cases hb1:jaz x.name
       ·have HR:Hid (rb=false):=jt.out k x hx (.inl hb1)
        rw[hb1]at hN
        clear hb1 jt nG HY
        go_wp2_with fail
        go_quiet ((first|(go_at_call 32;exact Calls.quiet_of_same (hN _))|(go_at_call 33;exact Calls.quiet_of_same (hI _))))
        go_wp2
        go_ret
        exact⟨ret_bool HR.out.symm,below_drewN dr _⟩
       ·rw[hb1]at hN
        cases ac:inB (r.zones.map ZoneD.name) x.to_
        ·have HR:Hid (rb=false):=jt.out k x hx (.inr ac)
         rw[ac]at hI
         clear hb1 ac jt nG HY
         go_wp2_with fail
         go_quiet ((first|(go_at_call 32;exact Calls.quiet_of_same (hN _))|(go_at_call 33;exact Calls.quiet_of_same (hI _))))
         go_wp2
         go_ret
         exact⟨ret_bool HR.out.symm,below_drewN dr _⟩
        ·have HR:Hid (∀j,j<k+1->∀x,r.links[j]? =some x->jaz x.name=true/\inB (r.zones.map ZoneD.name) x.to_=true):=fun j hj y hy=>by
          by_cases e:j=k
          ·subst e;rw[hx]at hy;obtain rfl:=osi hy;exact⟨hb1,ac⟩
          ·exact ak.out j (by omega) y hy
         rw[ac]at hI
         clear hb1 ac
         go_wp2_with fail
         go_quiet ((first|(go_at_call 32;exact Calls.quiet_of_same (hN _))|(go_at_call 33;exact Calls.quiet_of_same (hI _))))
         obtain⟨V,hV⟩:∃V,V=wr.drewN nq:=⟨_,rfl⟩
         rw[<- hV]
         have ac:Bw wr V:=hV ▸ below_drewN (brf _ _) _
         clear hV hI hN xO mi
         have an:=qtr hB ac
         have aW:=jf6 hO ac
         have z2:=qce ac z1 z1
         have d1:=qce ac c1 c1
         have hsz:=an.size
         have hs:=jeh (l:=r.links.map LinkD.name) (k:=k) (x:=x.name) (by rw[lgm,hx];rfl)
         have HS:Hid ((r.zones.map ZoneD.name++(r.links.map LinkD.name).take (k+1)).map Value.string=(r.zones.map ZoneD.name++(r.links.map LinkD.name).take k).map Value.string++[.string x.name]):=by
          simp only[Hid];rw[lma,hs, <- List.append_assoc, <- lma]
         clear hs ac hO x1 y1 z1 c0 c1 au
         generalize (r.zones.map ZoneD.name++(r.links.map LinkD.name).take k).map Value.string=xs at *
         obtain⟨n,hn⟩:∃n,n=r.zones.length+k:=⟨_,rfl⟩
         have Eo:Hid (r.zones.length+(k+1)=n+1):=by simp only[Hid];omega
         have gF:n<=2097152:=by omega
         rw[<- hn]at aW ⊢
         clear hn
         go_wp2_with (first
          |(at_builtin;refine wpList_append_own _ rfl _ _ 74 rfl W.heap.size 9 i0 (.string ⟨#[]⟩) 1 16 Tryz.underlying74 hi aG aH aF rfl (by decide) _ _ _ rfl (aW.alloc _) ⟨V.heap.size,0,none⟩ 1 1 [.string x.name] rfl rfl ?d1 ?d2 ?d3 ?d4 ?d5 ?_)
          |fail)
         all_goals try go_simp
         case d2=>rfl
         case d3=>unfold maxLen;omega
         case d4=>omega
         case d5=>omega
         ·intro v' w3 ao af _
          have ax:Bw W w3:=(an.alloc hsz _).grown af (by simp;omega) (jho aW)
          clear af aW
          go_wp2
          go_roundw
          case rel=>exact⟨k+1,by omega,by go_num,by rw[Eo.out];exact jni ao (by omega),by rw[HS.out,Eo.out];exact ao,HR,ax⟩
          case measure=>simp[intOf];omega
      ·have e:k=r.links.length:=by omega
       subst e
       have H3:Hid (∀(k:Nat) x,r.links[k]? =some x->jaz x.name=true/\inB (r.zones.map ZoneD.name) x.to_=true):=fun j x hx=>ak.out j (lgs hx).1 x hx
       have Ij:Hid ((∀(k:Nat) x,(r.zones.map ZoneD.name++r.links.map LinkD.name)[k]? =some x->inB ((r.zones.map ZoneD.name++r.links.map LinkD.name).take k) x=false)->rb=true):=fun h4=>HY.out HL.out H1.out H2.out H3.out h4
       rw[List.take_of_length_le (by simp)]at xO au
       clear ak jt HY HL H1 H2 H3 mi hO j6 j7
       generalize r.zones.map ZoneD.name++r.links.map LinkD.name=ns at *
       have gF:ns.length<=1048576:=by omega
       rw[<- au]
       rw[<- au]at eh
       clear au
       go_wp2
       obtain⟨MH,rfl⟩:=qea wr
       go_loopw [8] (fun i wr=>∃k:Nat,k<=ns.length/\i=iv k/\Hid (∀j,j<k->∀x,ns[j]? =some x->inB (ns.take j) x=false)/\Bw MH wr) (fun i _=>ns.length-(intOf i).toNat)
       case atStart=>exact⟨0,by omega,rfl,fun j hj=>by omega,brf _ _⟩
       case round=>
        obtain⟨k,hk,rfl,ak,aR⟩:=hrel
        have dA:=xO.below aR
        have EZ:=qtr dr aR
        by_cases hlt:k<ns.length
        ·obtain⟨x,hx⟩:=qgg hlt
         obtain⟨b',o',he,c0⟩:=dA.at hx
         injection he with he
         injection he with u1 u2
         subst u1 u2
         rw[Nat.zero_add]at c0
         have hI:=fun n=>jkv (ns.take k) (some (ad g 0)) cap x (wr.drewN n) ((dA.take k).below (below_drewN (brf _ _) n)) (by rw[List.length_take];omega)
         rw[List.length_take,Nat.min_eq_left (by omega)]at hI
         have j0:(0:Int)<=(k:Int):=by omega
         have j1:(k:Int)<=(cap:Int):=by omega
         have j2:(k:Int)<(ns.length:Int):=by omega
         cases hb:inB (ns.take k) x
         ·have HR:Hid (∀j,j<k+1->∀x,ns[j]? =some x->inB (ns.take j) x=false):=fun j hj y hy=>by
           by_cases e:j=k
           ·subst e;rw[hx]at hy;obtain rfl:=osi hy;exact hb
           ·exact ak.out j (by omega) y hy
          rw[hb]at hI
          clear hb
          go_wp2_with fail
          go_quiet ((go_at_call 33;exact Calls.quiet_of_same (hI _)))
          go_wp2
          go_roundw
          case rel=>exact⟨k+1,by omega,by go_num,HR,below_drewN aR _⟩
          case measure=>simp[intOf];omega
         ·have HR:Hid (rb=false):=nG.out k x hx hb
          rw[hb]at hI
          clear hb
          go_wp2_with fail
          go_quiet ((go_at_call 33;exact Calls.quiet_of_same (hI _)))
          go_wp2
          go_ret
          exact⟨ret_bool HR.out.symm,below_drewN EZ _⟩
        ·have e:k=ns.length:=by omega
         subst e
         have HR:Hid (rb=true):=Ij.out fun j x hx=>ak.out j (lgs hx).1 x hx
         go_wp2
         go_ret
         exact⟨ret_bool HR.out.symm,EZ⟩
