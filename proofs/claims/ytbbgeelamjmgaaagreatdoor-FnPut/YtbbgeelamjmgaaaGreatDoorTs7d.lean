/- The table of a YZ: the model's l03Table, walked. -/
import Derived.Test.YtbbgeelamjmgaaaGreatDoorTbSd
set_option maxHeartbeats 0
set_option linter.unusedSimpArgs false
namespace Go.Proofs.YtbbgeelamjmgaaaGreatDoor
open Go.RowKit Go.Sort
structure Tst(p:Prop)(x:Value):Prop where
 ex:∃tb:Bool,x=.bool tb/\(tb=true↔p)
theorem jpg{w w6 wy w7 w8:World}{n0 n1:Nat}{p7 p8:Option Addr}{m7 c7 m8 c8:Nat}{T T':List ZK}{x:ZK}{v0 v1 v2 z0 z1:Value}
  (uu:Mid n0 n1 w6 wy) (Cx:n1<=wy.heap.size) (dU:Bw w wy) (ay:Below wy.drew.heap.size wy.drew w7) (jj:∀g,(U p7 m7 c7).ownBlock=some g->w.heap.size+1+1+1+1<=g) (jh:∀g,(U p7 m7 c7).ownBlock=some g->g<n0\/n1<=g)
  (cT:Fr (λb=>(U p7 m7 c7).ownBlock=some b) w7 w8) (dF:Zf w8 (w.heap.size+1+1+1+1) (U p8 m8 c8) (LP T x)) (jf:(U p8 m8 c8).ownBlock=(U p7 m7 c7).ownBlock\/∃g,(U p8 m8 c8).ownBlock=some g/\w7.heap.size<=g)
  (jO:Jl w.heap.size v0 v1 v2 z0 z1 w8) (wN:∃u,w8.cell? ⟨w.heap.size+1+1+1,0,none⟩=some u) (h0:w.heap.size+1+1+1+1<=n0) (_h01:n0<=n1) (JL:T'=LP T x):
  Mid n0 n1 w6 (w8.setCell ⟨w.heap.size+1+1+1,0,none⟩ (U p8 m8 c8))/\n1<=(w8.setCell ⟨w.heap.size+1+1+1,0,none⟩ (U p8 m8 c8)).heap.size/\Jl w.heap.size v0 v1 v2 z0 z1 (w8.setCell ⟨w.heap.size+1+1+1,0,none⟩ (U p8 m8 c8))/\(w8.setCell ⟨w.heap.size+1+1+1,0,none⟩ (U p8 m8 c8)).cell? ⟨w.heap.size+1+1+1,0,none⟩=some (U p8 m8 c8)/\Zf (w8.setCell ⟨w.heap.size+1+1+1,0,none⟩ (U p8 m8 c8)) (w.heap.size+1+1+1+1) (U p8 m8 c8) T'/\Hid (∀g,(U p8 m8 c8).ownBlock=some g->g<n0\/n1<=g)/\Bw w (w8.setCell ⟨w.heap.size+1+1+1,0,none⟩ (U p8 m8 c8)):=by
 have dR:wy.drew.heap.size=wy.heap.size:=rfl;have J6:n1<=w7.heap.size:=by have h1:=ay.size;omega
 have M7:Mid n0 n1 w6 w7:=(uu.trans (Mid.of_below (n0:=n0) (n1:=n1) (rW wy) Q)).trans (Mid.of_below (n0:=n0) (n1:=n1) ay Q);have M8:Mid n0 n1 w6 w8:=M7.trans λg h1 h2=>cT.block g Q λhg=>by have:=jh g hg;omega
 have B7:Bw w w7:=(dU.trans ((rW wy).mono dU.size)).trans (ay.mono dU.size);have B8:Bw w w8:=B7.trans (cT.below (λg hg=>by have:=jj g hg;omega) B7.size);have Cg:∀g,(U p8 m8 c8).ownBlock=some g->w.heap.size+1+1+1+1<=g:=λg hg=>(World.ownsRow.lt dF g hg).1
 have⟨u,hu⟩:=wN;refine⟨M8.trans λg h1 h2=>heap_setCell_other w8 ⟨w.heap.size+1+1+1,0,none⟩ g _ (λe=>by simp at e;omega),by simp;exact Nat.le_trans J6 cT.size,jO.set _,Bf _ _ _ hu,?_,λg hg=>?_,B8.setCell (show w.heap.size<=w.heap.size+1+1+1 by omega) _⟩
 .rw[JL]
  exact jcj dF (λe=>by have:=Cg _ e;omega)
 .rcases jf with h|⟨g2,h2,h3⟩
  .exact jh g (h.symm.trans hg)
  .rw[h2]at hg;injection hg with hg;omega
theorem jhp{e:ZH}(h0:¬e.Vv.size=0):e.Vv.toList.isEmpty=false:=by
 cases h:e.Vv.toList with
 |nil=>exact absurd (by rw[vbh]at h;rw[<- Rm,h];rfl) h0
 |cons x l=>rfl
set_option maxRecDepth 20000 in
theorem jlq(r :ZW)(zn:ByteArray)(E:List ZH)(ae:Option Addr)(ce:Nat)(a b0 c:Option Addr)(ca cb cc:Nat)(w:World)(hv:Zd w (.agg #[U a r.Vv.length ca,U b0 r.YU.length cb,U c r.YW.length cc]) r)(hE:Za w ae 6 (E.map ZH.cs))(hr:∀x∈r.Vv,BF x=true)(fk:r.Vv.length<=40)(di:∀x∈r.Vv,x.on.size<=1048576)(hP:∀e∈E,vbM e)(hl:E.length<=8)(hU:vcW E):
  C 145 #[.agg #[U a r.Vv.length ca,U b0 r.YU.length cb,U c r.YW.length cc],.agg #[I zn,U ae E.length ce]] w λq W'=>vcV r E w q W':=by
 have⟨i0,hi,aG,aH,aF⟩:=info_parts jmb;have HR:=hid hr;have HP:=hid hP;have HU:=hid hU;have sY:=hid di;have HV:=hid hv;have ag:Bw w ((((w.alloc (G #[U a r.Vv.length ca,U b0 r.YU.length cb,U c r.YW.length cc] 27)).alloc (G #[I zn,U ae E.length ce] 120)).alloc (G #[nS] 158)).alloc (G #[nS] 158)):=(((ZA w _).alloc M _).alloc RO _).alloc RO _;have EM:Jl w.heap.size (U a r.Vv.length ca) (U b0 r.YU.length cb) (U c r.YW.length cc) (I zn) (U ae E.length ce) ((((w.alloc (G #[U a r.Vv.length ca,U b0 r.YU.length cb,U c r.YW.length cc] 27)).alloc (G #[I zn,U ae E.length ce] 120)).alloc (G #[nS] 158)).alloc (G #[nS] 158)):=⟨RQ,RQ,RQ,RQ,RQ,RQ,RQ,⟨nS,RQ⟩,RQ⟩;have GV:((((w.alloc (G #[U a r.Vv.length ca,U b0 r.YU.length cb,U c r.YW.length cc] 27)).alloc (G #[I zn,U ae E.length ce] 120)).alloc (G #[nS] 158)).alloc (G #[nS] 158)).cell? ⟨w.heap.size+1+1+1,0,none⟩=some nS:=RQ;have dP:w.heap.size+1+1+1+1<=((((w.alloc (G #[U a r.Vv.length ca,U b0 r.YU.length cb,U c r.YW.length cc] 27)).alloc (G #[I zn,U ae E.length ce] 120)).alloc (G #[nS] 158)).alloc (G #[nS] 158)).heap.size:=M;clear hr hP hU di hv;unfold C;go_in;go_wp2;go_loopw [7,8] (λs7 s8 wr=>∃(k:Nat) (a6:Option Addr) (m6 c6:Nat),k<=E.length/\s7=J (uj r E k).2/\s8=J k/\wr.cell? ⟨w.heap.size+1+1+1,0,none⟩=some (U a6 m6 c6)/\Zf wr (w.heap.size+1+1+1+1) (U a6 m6 c6) (uj r E k).1/\Hid (okK r E k=true)/\Jl w.heap.size (U a r.Vv.length ca) (U b0 r.YU.length cb) (U c r.YW.length cc) (I zn) (U ae E.length ce) wr/\w.heap.size+1+1+1+1<=wr.heap.size/\Bw w wr) (λ_ s8 _=>E.length-(intOf s8).toNat)
 .exact⟨0,none,0,0,Q,rfl,rfl,GV,World.ownsRow_nil _ _ _ _,rfl,EM,dP,ag⟩
 ·
  clear EM GV dP ag;obtain⟨k,a6,m6,c6,hk,f8,rfl,tb,hT,iA,bx,dI,hB⟩:=hrel;have⟨⟨hb1,ac⟩,fg⟩:=j1s (r:=r) (E:=E) k;have Np:=bx.y1;by_cases hlt:k<E.length
  .have⟨e,he⟩:=DV hlt
   have eR:=HP.out e (ui he);have⟨be,oe,su,hc⟩:=(hE.below hB).at (i:=k) (r:=e.cs) (by rw[Z8,he];rfl);have c0:wr.cell? ⟨be,oe+k*6,none⟩=some (J e.Zq):=hc 0 _ rfl;have c1:=hc 1 _ rfl;have c2:=hc 2 _ rfl;have c3:=hc 3 _ rfl;have c4:=hc 4 _ rfl;have c5:=hc 5 _ rfl;subst su;have⟨⟨T0,b⟩,ei⟩:=ZL (uj r E k);rw[ei]at hT f8 hb1 ac fg;simp only at hT f8 hb1 ac fg;subst f8;have dB:=ZA wr (G #[J e.Zq,I e.Vv,J e.YX,I e.mr,J e.ZO,I e.of] 154);have aj:Bw w (wr.alloc (G #[J e.Zq,I e.Vv,J e.YX,I e.mr,J e.ZO,I e.of] 154)):=hB.alloc Q _;have tm:=bx.below dB;have wO:=YR dB tb;have eU:=tm.x0;have eV:=tm.x1;have eW:=tm.x2;obtain⟨jP,jR,jT,jV,jX,jZ⟩:(λz:World=>z.cell? ⟨wr.heap.size,0,none⟩=some (J e.Zq)/\z.cell? ⟨wr.heap.size,1,none⟩=some (I e.Vv)/\z.cell? ⟨wr.heap.size,2,none⟩=some (J e.YX)/\z.cell? ⟨wr.heap.size,3,none⟩=some (I e.mr)/\z.cell? ⟨wr.heap.size,4,none⟩=some (J e.ZO)/\z.cell? ⟨wr.heap.size,5,none⟩=some (I e.of)) (wr.alloc (G #[J e.Zq,I e.Vv,J e.YX,I e.mr,J e.ZO,I e.of] 154)):=RQ;have hH:=jm6 r _ e.Vv e.Zq (wr.alloc (G #[J e.Zq,I e.Vv,J e.YX,I e.mr,J e.ZO,I e.of] 154)) (HV.out.below aj) HR.out fk sY.out eR.off.1 eR.off.2;have bU:(wr.alloc (G #[J e.Zq,I e.Vv,J e.YX,I e.mr,J e.ZO,I e.of] 154)).heap.size=wr.heap.size+1:=M;rw[bU]at hH;have eY:(k:Int)<(E.length:Int):=Q;clear hc;go_wp2_with fail;refine hH.mono ?_;rintro q w2 ⟨v2,H,bb,rfl,aW,cY,bu⟩;have⟨pK,iZ⟩:=jz2 cY;obtain⟨a2,fJ,rfl,mZ⟩:=aW.seq;have an:=aj.trans (bu.mono Q);have cC:Below ((wr.alloc (G #[J e.Zq,I e.Vv,J e.YX,I e.mr,J e.ZO,I e.of] 154))).heap.size ((wr.alloc (G #[J e.Zq,I e.Vv,J e.YX,I e.mr,J e.ZO,I e.of] 154))) w2:=by first|exact bu|exact bU.symm ▸ bu
   have xA:=tm.below cC;have wP:=YR cC wO;have jQ:=YR cC jP;have jS:=YR cC jR;have jU:=YR cC jT;have jW:=YR cC jV;have jY:=YR cC jX;have k8:=YR cC jZ;have gU:Zf w2 (w.heap.size+1+1+1+1) (U a6 m6 c6) T0:=uZ (uZ hT dB) cC;have jg:∀g,(U a6 m6 c6).ownBlock=some g->g<wr.heap.size:=λg hg=>(World.ownsRow.lt hT g hg).2
   have vf:∀g,(U a6 m6 c6).ownBlock=some g->w.heap.size+1+1+1+1<=g:=λg hg=>(World.ownsRow.lt hT g hg).1
   cases bb with
   |false=>
    have oF:¬e.Vv.size=0:=λh=>by have:=jk2 (off:=e.Zq) HR.out h;rw[this]at iZ;cases iZ
    have az:e.Vv.toList.isEmpty=false:=jhp oF;have HX:Hid ((vay r E).2=false):=by simp only[Hid,vay];rw[j04 he iZ.symm hlt];rfl
    have ip:=xA.r0;have oW:=xA.f0;have t0:(w2.setCell ⟨w.heap.size+1+1,0,none⟩ (U a6 m6 c6)).cell? ⟨w.heap.size+1+1,0,none⟩=some (U a6 m6 c6):=Bf _ _ _ ip;have HQ:Hid (vcV r E w (V (.tuple #[.agg #[U a6 m6 c6],.bool false])) (w2.setCell ⟨w.heap.size+1+1,0,none⟩ (U a6 m6 c6))):=⟨_,_,T0,rfl,jcj (Ez gU Q) (λh=>by have:=vf _ h;omega),HX.out.symm,(λh=>by cases h),an.setCell (show w.heap.size<=w.heap.size+1+1 by omega) _⟩;clear hH cY pK iZ aW mZ HX gU bu cC;go_wp2;exact ZM (v:=.tuple #[.agg #[U a6 m6 c6],.bool false]) (by simp[results,Tryz.results145,go_sem,t0]) rfl HQ.out
   |true=>
    have rQ:Hid (okK r E (k+1)=true):=jvx he iZ.symm iA.out;have nW:=jmi (nm:=e.Vv) HR.out eR.off.1 eR.off.2;have jA:=jea (r:=r) (nm:=e.Vv) (off:=e.Zq);have mh:=λh=>jln (r:=r) (T:=T0) (b:=b) he h ei
    have fY:=λh=>jlm (r:=r) (T:=T0) (b:=b) he h ei
    have Bj:=λh=>congrArg Prod.fst (jk2 (nm:=e.Vv) (off:=e.Zq) HR.out h)
    rw[<- pK]at nW jA mh fY Bj;have lQ:=hid Bj;have xf:=hid nW;have nD:Hid (∀t,(-7200<=(Mv e H t).YX/\(Mv e H t).YX<=7200)/\(Mv e H t).ZR.size<=6):=jmk eR nW;have BW:=eR.fmt;have iI:=eR.off.1;have sB:=eR.off.2;have gZ:∀b o,a2=some ⟨b,o,none⟩->wr.heap.size<=b/\b<w2.heap.size:=λb o h=>by
     have h1:=World.ownsRow.lt aW b (by rw[h];rfl);omega
    have jy:=jpp e H a2 fJ b w2 mZ jA Q (λt=>by have:=(nD.out t).2;omega) eR.unt.1 eR.unt.2 iI sB (λt=>(nD.out t).1) ac;have tZ:=λh=>jxk HU.out he h H b
    have u9:=λh=>jxj HU.out he h H b
    simp only[ZH.v]at jy;have CH:wr.heap.size+1<=w2.heap.size:=by have h:=bu.size;rw[bU]at h;exact h
    clear hH cY pK iZ aW ei iA hT nW Bj bu cC tm wO bx tb dB bU aj c0 c1 c2 c3 c4 c5 jP jR jT jV jX jZ eU eV eW;have⟨en,fi⟩:=ZL (vbT e H b);rw[fi]at jy tZ u9;go_wp2_with fail;refine jy.mono ?_;rintro q w3 ⟨rfl,bl⟩;have ax:=Zp an bl;have xB:=xA.below bl;have dE:=uZ gU bl;have nc:=mZ.below bl;have rF:=YR bl wP;have fM:=YR bl jQ;have eJ:=YR bl jS;have fN:=YR bl jU;have fO:=YR bl jW;have fP:=YR bl jY;have fQ:=YR bl k8;have pQ:wr.heap.size<w3.heap.size:=by have h1:=bl.size;omega
    have DN:=xB.y1;have⟨n0,mE⟩:=ZL wr.heap.size;have FL:∀b o,a2=some ⟨b,o,none⟩->n0<=b/\b<w3.heap.size:=λb o h=>by have h1:=gZ b o h;have h2:=bl.size;omega
    have gZ:=FL;rw[mE]at jg pQ dI fM eJ fN fO fP fQ;rw[mE];clear FL jy bl gU mZ xA wP an jQ jS jU jW jY k8 CH mE;have sj:Zs (w3.alloc (G #[] 2)) w3.heap.size (U (some ⟨w3.heap.size,0,none⟩) 0 0) []:=ja5 w3 2 1;have No:=YR (ZA w3 (G #[] 2)) DN;by_cases dN:b<en\/k+1=E.length
    .have HS : Hid (uj r E (k+1)=(GB (yO e H) (vaG b (yM H b en)) T0,en)):=by
      by_cases hla:k+1=E.length
      .simp only[Hid];rw[mh hla,tZ hla]
      .rw[u9 hla]at dN ⊢
       simp only[Hid];rw[fY hla,if_pos (dN.resolve_right hla)]
     have ox:b<en\/(¬b<en/\en=b/\((k:Int)==(E.length:Int)-1)=true):=by
      by_cases h:b<en
      .exact .inl h
      .refine .inr ⟨h,?_,by have:=dN.resolve_left h;simp;omega⟩
       have h1:=tZ (dN.resolve_left h);omega
     clear mh fY tZ u9 fi dN;go_upto_region 12 with fail
     go_cut [68]from 19 to 161 (λx wx=>x=.bool true/\wx=(w3.alloc (G #[] 2)))
     case first=>
      rcases ox with g1|⟨g1,g2,g3⟩
      .go_wp2
       go_meet;exact⟨rfl,rfl⟩
      .have g4:b<=en:=Q
       clear g2;go_wp2;go_meet;exact⟨rfl,rfl⟩
     case rest =>
      obtain⟨rfl,rfl⟩:=hcut;clear ox
      go_wp2_with (first
       |(at_builtin;refine wpList_append_own _ rfl _ _ 90 rfl w3.heap.size 2 i0 (J 0) 1 8 Tryz.underlying90 hi aG aH aF rfl RN (.slice (some ⟨w3.heap.size,0,none⟩) 0 0) 0 [] rfl (nO sj _) ⟨w3.heap.size+1,0,none⟩ 1 1 [J b] rfl rfl (by simpa using cell_one_new (w3.alloc (.cells #[] 2)) (J b) 2) (by intro u hu;simp at hu;subst hu;rfl) (by unfold maxLen;simp) M RO ?_)
       |fail)
      intro vA wA kI uX _;obtain⟨pA,GF,EQ,rfl⟩:=Dt kI;have aD:Bw w3 wA:=((ZA w3 _).alloc M _).grown uX RO (λj hj=>by simp[Value.ownBlock]at hj;omega);have uz:Zs wA w3.heap.size (U pA GF EQ) ((yM (H.take 0) b en).foldl JP [b]):=by simpa [Zs,yM]using kI
      clear kI uX sj;go_wp2;go_loopw [13,14] (λDg kY wq=>∃(j:Nat) (p:Option Addr) (m c:Nat),j<=H.length/\kY=J j/\Dg=U p m c/\Zs wq w3.heap.size (U p m c) ((yM (H.take j) b en).foldl JP [b])/\Bw w3 wq) (λ_ kY _=>H.length-(intOf kY).toNat)
      .exact⟨0,pA,GF,EQ,Q,rfl,rfl,uz,aD⟩
      ·
       have⟨wp,CI⟩:=wL wr;subst CI;obtain⟨j,aA,mA,cA,hj,rfl,rfl,bI,aY⟩:=hrel;clear uz aD;by_cases eP:j<H.length
       .have⟨x,hx⟩:=DV eP
        have⟨bh,oh,sw,dY⟩:=(nc.below aY).at (i:=j) (r:=x.cs) (by rw[Z8,hx];rfl);have e0:wp.cell? ⟨bh,oh+j*3,none⟩=some (J x.at_):=dY 0 _ rfl;have oF:¬e.Vv.size=0:=λh=>by have:=lQ.out h;rw[this]at eP;simp at eP
        have az:e.Vv.toList.isEmpty=false:=jhp oF;have oV:=YR aY eJ;have Cb:(j:Int)<(H.length:Int):=Q;have rS:=jr6 (b:=b) (e:=en) hx;have ma:((yM (H.take j) b en).foldl JP [b]).length<=100000:=by
         have h1:=jjs b (yM (H.take j) b en);have h2:=jdo (H.take j) b en;have h3:(H.take j).length<=2000:=by rw[List.length_take];omega
         unfold vaG at h1;omega
        have lu:=jsk (X:=yM (H.take j) b en) (A:=[b]) M;have sf:0<((yM (H.take j) b en).foldl JP [b]).length:=List.length_pos_of_mem ((lu.2 b).mpr (.inl M));by_cases hin:b<x.at_/\x.at_<en
        .rw[if_pos hin]at rS
         have yX:Hid ((yM (H.take (j+1)) b en).foldl JP [b]=JP ((yM (H.take j) b en).foldl JP [b]) x.at_):=by simp only[Hid];rw[rS,List.foldl_append];rfl
         have EX:=jls ((yM (H.take j) b en).foldl JP [b]) (U aA mA cA) x.at_ w3.heap.size wp bI aY.size sf ma lu.1;have⟨g1,g2⟩:=hin;generalize (yM (H.take j) b en).foldl JP [b]=L at *;subst sw;clear rS dY hx lu bI;go_wp2_with fail;refine EX.mono ?_;rintro q w7 ⟨v7,rfl,cj,ay⟩;obtain⟨p7,m7,c7,rfl⟩:=Dt cj;have rP:Hid (Zs w7 w3.heap.size (U p7 m7 c7) ((yM (H.take (j+1)) b en).foldl JP [b])):=by rw[yX.out];exact cj
         clear cj EX;go_wp2;go_roundw
         .exact⟨j+1,p7,m7,c7,Q,RP,rfl,rP.out,aY.trans ay⟩
         .simp[intOf];omega
        .rw[if_neg hin,List.append_nil]at rS
         have rP:Hid (Zs wp w3.heap.size (U aA mA cA) ((yM (H.take (j+1)) b en).foldl JP [b])):=by rw[rS];exact bI
         subst sw;clear rS dY hx lu bI sf ma;by_cases g1:b<x.at_
         .have g2:¬x.at_<en:=λh=>hin ⟨g1,h⟩
          clear hin;go_wp2;go_roundw
          .exact⟨j+1,aA,mA,cA,Q,RP,rfl,rP.out,aY⟩
          .simp[intOf];omega
         .clear hin
          go_wp2;go_roundw
          .exact⟨j+1,aA,mA,cA,Q,RP,rfl,rP.out,aY⟩
          .simp[intOf];omega
       .have jd:j=H.length:=Q
        have Cb:¬(j:Int)<(H.length:Int):=Q;rw[jd,List.take_length]at bI;have bG:=Zp ax aY;have EN:=xB.below aY;have fe:=uZ dE aY;have Dw:=nc.below aY;have wQ:=YR aY rF;have iT:=YR aY fM;have iU:=YR aY eJ;have iV:=YR aY fN;have iW:=YR aY fO;have iX:=YR aY fP;have iY:=YR aY fQ;have si:w3.heap.size<=wp.heap.size:=aY.size;have⟨w5,oK⟩:=wL wp;subst oK;have⟨n3,vk⟩:=ZL w3.heap.size;rw[vk]at bI si gZ pQ;have⟨A,tR⟩:=ZL (vaG b (yM H b en));have Fm:Zs w5 n3 (U aA mA cA) A:=by rw[<- tR];exact bI
        have Hf:Hid (A.Pairwise (· < ·)):=by rw[<- tR];exact(jsk (X:=yM H b en) (A:=[b]) M).1
        have kh:A.length<=2001:=by have h1:=jjs b (yM H b en);have h2:=jdo H b en;rw[tR]at h1;omega
        rw[tR]at HS;have KF:w.heap.size+1+1+1+1<=n3:=by have h1:=pQ;omega
        have Kn:n0<n3:=Q;clear jd bI tR aY dE nc xB rF ax vk;clear fM eJ fN fO fP fQ;have ur:=λw (h:Za w a2 3 (H.map Z5.cs))=>jgq H a2 fJ w h jA (λh hh=>(xf.out h hh).at_)
        go_wp2_with fail;refine(ur _ Dw).mono ?_;rintro q w6 ⟨rfl,xH,hb6⟩;have cp:=Zp bG hb6;have xC:=EN.below hb6;have fV:=uZ fe hb6;have Me:=Dw.below hb6;have nj:=YR hb6 wQ;have zi:=YR hb6 iT;have zm:=YR hb6 iU;have zu:=YR hb6 iV;have zz:=YR hb6 iW;have zD:=YR hb6 iX;have zH:=YR hb6 iY;have⟨g5,xX⟩:=ZL w5.heap.size;have⟨n1,iO⟩:=ZL w6.heap.size;have ON:g5<=n1:=by rw[<- xX, <- iO];exact hb6.size
        rw[xX]at xH ⊢;have Ht:Hid (∀i t,(Gr H)[i]? =some t->w6.cell? ⟨g5,i,none⟩=some (J t)):=λi t h=>xH i t (Nat.zero_le _) h
        have AP:Zs w6 n3 (U aA mA cA) A:=uZ Fm hb6;have Kk:mA=A.length:=by
         rcases AP.2 with⟨h,h0⟩|⟨g,cap,cur,h,_⟩
         .injection h with h1 h2 h3;omega
         .injection h
        subst Kk;have K4:n3<=g5:=by rw[<- xX];exact si
        have He:Hid (∀(i:Nat) x,A[i]? =some x->∃gA,aA=some ⟨gA,0,none⟩/\n3<=gA/\gA<n1/\w6.cell? ⟨gA,i,none⟩=some (J x)):=λi x hx=>by
         have⟨g,cap,hv,_,hg,jG,hc⟩:=AP.open (by have:=(pO hx).1;omega);injection hv with ej eQ eS
         exact⟨g,ej,jG,by rw[<- iO];exact hg,hc i x hx⟩
        have oD:∀g,(U a6 m6 c6).ownBlock=some g->g<n0\/n1<=g:=λg hg=>.inl (jg g hg)
        have qH:n1<=w6.heap.size:=Q;have C1:0<H.length->g5<n1:=λh=>by
         obtain⟨u,hu⟩:∃u,(Gr H)[0]? =some u:=⟨_,ZV (by rw[jcc];exact h)⟩;have:=ZI (xH 0 u (ZD _) hu);simp at this;omega
        have bT:n0<n1:=Q;have tN:∀bb oo,a2=some ⟨bb,oo,none⟩->n0<=bb/\bb<n1:=λbb oo h=>by have:=gZ bb oo h;omega
        have xt:Hid ((Gr H).length=H.length):=jcc H;have Hs:Hid (∀i k,i<=k->k<=H.length->D4 (Gr H) i<=D4 (Gr H) k):=λi k h1 h2=>jrx h1 h2
        have sW:Hid (∀t m,m<=H.length->(∀i,i<m->D4 (Gr H) i<=t)->(∀i,m<=i->i<H.length->t<D4 (Gr H) i)->hcnt H t=m):=λt m h1 h2 h3=>jwe (λh hh=>(xf.out h hh).at_) h1 (λi hi=>by have:=h2 i hi;omega) h3
        generalize Gr H=SU at *;clear xH hb6 fe Dw EN wQ AP Fm iO xX ur;clear iT iU iV iW iX iY;go_wp2;go_loopw [16,17] (λwj wk wq=>∃(j nn:Nat) (p7:Option Addr) (m7 c7:Nat),j<=A.length/\wk=J j/\wj=J nn/\nn<=H.length/\Hid (∀i,i<nn->∀j2 t,j<=j2->A[j2]? =some t->D4 SU i<=t)/\wq.cell? ⟨w.heap.size+1+1+1,0,none⟩=some (U p7 m7 c7)/\Zf wq (w.heap.size+1+1+1+1) (U p7 m7 c7) (GB (yO e H) (A.take j) T0)/\Hid (∀g,(U p7 m7 c7).ownBlock=some g->g<n0\/n1<=g)/\Mid n0 n1 w6 wq/\n1<=wq.heap.size/\Jl w.heap.size (U a r.Vv.length ca) (U b0 r.YU.length cb) (U c r.YW.length cc) (I zn) (U (some ⟨be,oe,none⟩) E.length ce) wq/\Bw w wq) (λ_ wk _=>A.length-(intOf wk).toNat)
        .exact⟨0,0,a6,m6,c6,Q,rfl,rfl,Q,λi hi=>Q,nj,fV,oD,Mid.refl _ _ _,qH,xC,cp⟩
        ·
         have⟨wq,qQ⟩:=wL wr;subst qQ;obtain⟨j,nn,a7,m7,c7,hj,rfl,rfl,mI,JG,GW,bI,jh,du,iQ,EO,dt⟩:=hrel;clear oD fV xC nj cp;by_cases eP:j<A.length
         .have⟨t,ht⟩:=DV eP
          obtain⟨gA,rfl,K5,C4,FP⟩:=He.out j t ht;have tu:wq.cell? ⟨gA,j,none⟩=some (J t):=du.cell Q C4 FP;have Hw:Hid (∀i,i<nn->D4 SU i<=t):=λi hi=>JG.out i hi j t (ZD _) ht
          have lj:Hid (GB (yO e H) (A.take (j+1)) T0=LP (GB (yO e H) (A.take j) T0) (yO e H t)):=by simp only[Hid];rw[List.take_add_one,ht];exact jgk _ _ _ _
          have oj:(GB (yO e H) (A.take j) T0).length<=100000:=by
           have h1:=jec (yO e H) (A.take j) T0;have h2:(A.take j).length<=A.length:=by rw[List.length_take];omega
           omega
          have⟨TT,eD⟩:=ZL (GB (yO e H) (A.take j) T0);rw[eD]at bI lj oj;have jj:∀g,(U a7 m7 c7).ownBlock=some g->w.heap.size+1+1+1+1<=g:=λg hg=>(World.ownsRow.lt bI g hg).1
          have I9:Hid (∀j2 t2,j+1<=j2->A[j2]? =some t2->t<=t2):=λj2 t2 h1 h2=>by have:=j0v Hf.out (i:=j) (k:=j2) Q ht h2;omega
          have zk:=du.cell (ZD _) bT zi;have oV:=du.cell (ZD _) bT zm;have zx:=du.cell (ZD _) bT zu;have zB:=du.cell (ZD _) bT zz;have zF:=du.cell (ZD _) bT zD;have zJ:=du.cell (ZD _) bT zH;have OW:(j:Int)<(A.length:Int):=Q;clear eD FP ht;go_wp2;go_loopw [16] (λwj wz=>∃n2:Nat,n2<=H.length/\wj=J n2/\Hid (∀i,i<n2->D4 SU i<=t)/\Bw wq wz) (λwj _=>H.length-(intOf wj).toNat)
          .exact⟨nn,mI,rfl,Hw,ZU _ _⟩
          ·
           have⟨wz,gp⟩:=wL wr;subst gp;obtain⟨n2,gF,rfl,pP,ov⟩:=hrel;have Iv:=YR ov tu;go_upto_region 24 with fail
           go_cut [129]from 115 to 131 (λx wx=>Tst (n2<H.length/\D4 SU n2<=t) x/\Bw wq wx)
           case first=>
            by_cases iJ:n2<H.length
            .obtain⟨u,hu⟩:∃u,SU[n2]? =some u:=⟨_,ZV (by rw[xt.out];exact iJ)⟩
             have cu:wz.cell? ⟨g5,n2,none⟩=some (J u):=YR ov (du.cell Q (C1 Q) (Ht.out n2 u hu));have oz:decide ((n2:Int)<(H.length:Int))=true:=rT Q;have bR:(n2:Int)<(H.length:Int):=Q;have yc:=jdm hu;by_cases cr:u<=t
             .have hd:decide (u<=t)=true:=rT cr
              have tg:Hid (Tst (n2<H.length/\D4 SU n2<=t) (.bool true)):=⟨true,rfl,λ_=>⟨iJ,by rw[yc];exact cr⟩,λ_=>rfl⟩;clear hu yc;go_quiet (fail);go_wp2;go_meet;exact⟨tg.out,below_drewN ov _⟩
             .have hd:decide (u<=t)=false:=dfe cr
              have tg:Hid (Tst (n2<H.length/\D4 SU n2<=t) (.bool false)):=⟨false,rfl,(λh=>by cases h),λh=>absurd (by rw[<- yc];exact h.2) cr⟩;clear hu yc;go_quiet (fail);go_wp2;go_meet;exact⟨tg.out,below_drewN ov _⟩
            .have oz:decide ((n2:Int)<(H.length:Int))=false:=dfe Q
             have tg:Hid (Tst (n2<H.length/\D4 SU n2<=t) (.bool false)):=⟨false,rfl,(λh=>by cases h),λh=>absurd h.1 iJ⟩;go_quiet (fail);go_wp2;go_meet;exact⟨tg.out,below_drewN ov _⟩
           case rest=>
            have⟨qm,iG⟩:=hcut;obtain⟨tb,rfl,mP⟩:=qm.ex;have⟨wy,dl⟩:=wL wc;subst dl;cases tb with
            | true=>
             have⟨iJ,cr⟩:=mP.mp rfl;have jt:Hid (∀i,i<n2+1->D4 SU i<=t):=λi hi=>by
              by_cases e:i=n2
              .rw[e];exact cr
              .exact pP.out i Q
             clear mP qm cr;go_wp2;go_roundw
             .exact⟨n2+1,Q,RP,jt,iG⟩
             .simp[intOf];omega
            |false=>
             have yB:Hid (hcnt H t=n2):=sW.out t n2 gF pP.out λi h1 h2=>by
              have h3:¬(n2<H.length/\D4 SU n2<=t):=λh=>by have:=mP.mpr h;cases this
              have h4:=Hs.out n2 i h1 Q;have h5:¬D4 SU n2<=t:=λh=>h3 ⟨Q,h⟩
              omega
             clear mP qm;have En:Hid (∀i,i<n2->∀j2 t2,j+1<=j2->A[j2]? =some t2->D4 SU i<=t2):=λi hi j2 t2 h1 h2=>by
              have h3:=pP.out i hi;have h4:=I9.out j2 t2 h1 h2;omega
             have⟨X,hX⟩:=ZL (yO e H t);rw[hX]at lj;have ir:=λw1 h1 h2=>jpq TT X (U a7 m7 c7) (w.heap.size+1+1+1+1) w1 h1 h2 oj
             have fv:=λw1 (h:Za w1 a2 3 (H.map Z5.cs))=>jgo e H a2 fJ t w1 h jA Q (λt=>by have:=(nD.out t).2;omega) iI sB (λt=>(nD.out t).1)
             rw[hX]at fv;obtain⟨xa,xo,xs,xb⟩:=X;simp only[ZK.v,ZH.v]at fv ir;have tw:=YR iG tu;have tz:=YR iG zk;have tA:=YR iG oV;have tC:=YR iG zx;have tD:=YR iG zB;have tE:=YR iG zF;have tG:=YR iG zJ;have wR:=YR iG GW;have Fo:Zf wy (w.heap.size+1+1+1+1) (U a7 m7 c7) TT:=uZ bI iG;have uu:Mid n0 n1 w6 wy:=du.trans (Mid.of_below iG iQ);have Cx:n1<=wy.heap.size:=Nat.le_trans iQ iG.size;have EP:=EO.below iG;have dU:Bw w wy:=Zp dt iG;have GS:Za wy a2 3 (H.map Z5.cs):=Me.mid uu tN;clear pP;cases n2 with
             | zero=>
              clear hX yB;have C9:j+1<=A.length:=Q;have kP:w.heap.size+1+1+1+1<=n0:=dI;have kG:n0<=n1:=Q;have pS:Zf wy.drew (w.heap.size+1+1+1+1) (U a7 m7 c7) TT:=Fo;have oT:=EP.below (rW wy);have AX:Bw w wy.drew:=dU.trans ((rW wy).mono dU.size);go_wp2_with fail;go_region_with (first|(go_at_call 182;refine(fv _ (GS.below (rW _))).mono ?_;rintro q7 w7 ⟨rfl,ay⟩;have zj:=YR ay tz;have zp:=YR ay tA;have zw:=YR ay tC;have zA:=YR ay tD;have zE:=YR ay tE;have zI:=YR ay tG;have zg:=YR ay tw;have Dy:=YR ay wR;have cj:Zf w7 (w.heap.size+1+1+1+1) (U a7 m7 c7) TT:=uZ pS ay;have tq:=oT.below ay)|(go_at_call 180;refine(ir _ cj (by have h1:=ay.size;have h2:wy.drew.heap.size=wy.heap.size:=rfl;omega)).mono ?_;rintro q8 w8 ⟨v8,rfl,dF,cT,jf⟩;obtain⟨p8,m8,c8,rfl⟩:=Dt dF;have jO:=tq.fr cT (λg hg=>jj g hg);have NF:=jO.f1;have⟨u8,wN⟩:=jO.t))
              all_goals
               have⟨M9,S9,zd,t9,yQ,yI,B9⟩:=jpg uu Cx dU ay jj jh.out cT dF jf jO ⟨u8,wN⟩ kP kG lj.out;clear dF cT jf ay cj tq jO fv ir;go_wp2;go_roundw
               .exact⟨j+1,0,p8,m8,c8,C9,RP,rfl,gF,En,t9,yQ,yI,M9,S9,zd,B9⟩
               .simp[intOf];omega
             | succ p=>
              have eG:p<H.length:=Q;have⟨x,hx⟩:=DV eG;have oF:¬e.Vv.size=0:=λh=>by have:=lQ.out h;rw[this]at eG;simp at eG
              have az:e.Vv.toList.isEmpty=false:=jhp oF;have gw:jdl e x t=⟨xa,xo,xs,xb⟩:=by
               rw[<- hX,yO,jen oF,yB.out];simp only[jdd];rw[hx];rfl
              have sN:=xf.out x (ui hx);have ko:=λw1=>jgp e x t w1 Q (by have:=sN.ZR;omega) iI sB sN.YX.1 sN.YX.2
              rw[gw]at ko;simp only[ZK.v,Z5.v,ZH.v]at ko;have Pd:(p:Int)<(H.length:Int):=Q;have JV:IntKind.i64.wrap ((p:Int)+1-1)=p:=by rw[IntKind.wrap_i64];omega
              have JU:IntKind.i64.wrap (p:Int)=p:=by rw[IntKind.wrap_i64];omega
              have⟨bh,oh,sw,dY⟩:=GS.at (i:=p) (r:=x.cs) (by rw[Z8,hx];rfl);have zK:wy.cell? ⟨bh,oh+p*3,none⟩=some (J x.at_):=dY 0 _ rfl;have zL:=dY 1 _ rfl;have zM:=dY 2 _ rfl;subst sw;clear dY hX yB hx gw sN;have C9:j+1<=A.length:=Q;have kP:w.heap.size+1+1+1+1<=n0:=dI;have kG:n0<=n1:=Q;have pS:Zf wy.drew (w.heap.size+1+1+1+1) (U a7 m7 c7) TT:=Fo;have oT:=EP.below (rW wy);have AX:Bw w wy.drew:=dU.trans ((rW wy).mono dU.size);go_wp2_with fail;go_region_with (first|(go_at_call 181;refine(ko _).mono ?_;rintro q7 w7 ⟨rfl,ay⟩;have zj:=YR ay tz;have zp:=YR ay tA;have zw:=YR ay tC;have zA:=YR ay tD;have zE:=YR ay tE;have zI:=YR ay tG;have zg:=YR ay tw;have Dy:=YR ay wR;have IC:=YR ay zK;have ID:=YR ay zL;have IF:=YR ay zM;have cj:Zf w7 (w.heap.size+1+1+1+1) (U a7 m7 c7) TT:=uZ pS ay;have tq:=oT.below ay)|(go_at_call 180;refine(ir _ cj (by have h1:=ay.size;have h2:wy.drew.heap.size=wy.heap.size:=rfl;omega)).mono ?_;rintro q8 w8 ⟨v8,rfl,dF,cT,jf⟩;obtain⟨p8,m8,c8,rfl⟩:=Dt dF;have jO:=tq.fr cT (λg hg=>jj g hg);have NF:=jO.f1;have⟨u8,wN⟩:=jO.t))
              all_goals
               have⟨M9,S9,zd,t9,yQ,yI,B9⟩:=jpg uu Cx dU ay jj jh.out cT dF jf jO ⟨u8,wN⟩ kP kG lj.out;clear dF cT jf ay cj tq jO fv ir ko;go_wp2;go_roundw
               .exact⟨j+1,p+1,p8,m8,c8,C9,RP,rfl,gF,En,t9,yQ,yI,M9,S9,zd,B9⟩
               .simp[intOf];omega
         .have jd:j=A.length:=Q
          have lP:Hid (Zf wq (w.heap.size+1+1+1+1) (U a7 m7 c7) (uj r E (k+1)).1):=by rw[HS.out];simp only;rw[jd,List.take_length]at bI;exact bI
          have mC:¬(j:Int)<(A.length:Int):=Q;have lN:Hid ((uj r E (k+1)).2=en):=by simp only[Hid];rw[HS.out]
          clear jd;go_wp2;go_roundw
          .exact⟨k+1,a7,m7,c7,Q,by rw[lN.out],RP,GW,lP.out,rQ,EO,Q,dt⟩
          .simp[intOf];omega
    .have hla:¬k+1=E.length:=λh=>dN (.inr h)
     have g1:¬b<en:=λh=>dN (.inl h)
     have HS:Hid (uj r E (k+1)=(T0,en)):=by
      have h1:=u9 hla;simp only[Hid];rw[fY hla, <- h1,if_neg g1]
     have hq:((k:Int)==(E.length:Int)-1)=false:=RO;have ur:=λw (h:Za w a2 3 (H.map Z5.cs))=>jgq H a2 fJ w h jA (λh hh=>(xf.out h hh).at_)
     have JT:=ZA w3 (G #[] 2);clear mh fY tZ u9 fi dN hla;go_wp2;go_loopw [13,14] (λDg kY wq=>∃j:Nat,j<=H.length/\Dg=U (some ⟨w3.heap.size,0,none⟩) 0 0/\kY=J j/\Bw w3 wq) (λ_ kY _=>H.length-(intOf kY).toNat)
     .exact⟨0,Q,rfl,rfl,JT⟩
     ·
      have⟨wp,CI⟩:=wL wr;subst CI;obtain⟨j,hj,rfl,rfl,aY⟩:=hrel;by_cases eP:j<H.length
      .have⟨x,hx⟩:=DV eP
       have⟨bh,oh,sw,dY⟩:=(nc.below aY).at (i:=j) (r:=x.cs) (by rw[Z8,hx];rfl);have e0:wp.cell? ⟨bh,oh+j*3,none⟩=some (J x.at_):=dY 0 _ rfl;have oF:¬e.Vv.size=0:=λh=>by have:=lQ.out h;rw[this]at eP;simp at eP
       have az:e.Vv.toList.isEmpty=false:=jhp oF;have oV:=YR aY eJ;have Cb:(j:Int)<(H.length:Int):=Q;subst sw;clear dY hx;by_cases g5:b<x.at_
       .have g2:¬x.at_<en:=Q
        go_wp2;go_roundw
        .exact⟨j+1,Q,rfl,RP,aY⟩
        .simp[intOf];omega
       .go_wp2
        go_roundw
        .exact⟨j+1,Q,rfl,RP,aY⟩
        .simp[intOf];omega
      .have Cb:¬(j:Int)<(H.length:Int):=Q
       go_wp2_with fail;refine(ur _ (nc.below aY)).mono ?_;rintro q w6 ⟨rfl,_,hb6⟩;have kw:Bw w3 w6:=Zp aY hb6;have cp:=Zp ax kw;have xC:=xB.below kw;have nj:=YR kw rF;have lP:Hid (Zf w6 (w.heap.size+1+1+1+1) (U a6 m6 c6) (uj r E (k+1)).1):=by rw[HS.out];exact uZ dE kw
       have lN:Hid ((uj r E (k+1)).2=en):=by simp only[Hid];rw[HS.out]
       have qM:w.heap.size+1+1+1+1<=w6.heap.size:=by have h1:=kw.size;omega
       clear hb6 ur;go_wp2;go_loopw [16,17] (λ_ wk wq=>wk=J 0/\wq=w6) (λ_ _ _=>0)
       .exact⟨rfl,rfl⟩
       ·
        have⟨wx,bC⟩:=wL wr;subst bC;obtain⟨rfl,qO⟩:=hrel;subst qO;go_wp2;go_roundw
        .exact⟨k+1,a6,m6,c6,Q,by rw[lN.out],RP,nj,lP.out,rQ,xC,qM,cp⟩
        .simp[intOf];omega
  .have kD:k=E.length:=Q
   have HX:Hid (vay r E=((uj r E k).1,decide ((uj r E k).1.length<=600))):=by simp only[Hid,vay];rw[kD]at iA ⊢;rw[iA.out];rfl
   have eY:¬(k:Int)<(E.length:Int):=Q;have⟨⟨T0,b⟩,ei⟩:=ZL (uj r E k);rw[ei]at hT f8 HX fg;simp only at hT f8 HX fg;subst f8;have hm:m6=T0.length:=by
    have⟨a,cap,h,_⟩:=hT.seq;injection h
   subst hm;have Dd:=bx.r0;have IJ:=bx.f0;have vf:∀g,(U a6 T0.length c6).ownBlock=some g->w.heap.size+1+1+1+1<=g:=λg hg=>(World.ownsRow.lt hT g hg).1
   have t0:(wr.setCell ⟨w.heap.size+1+1,0,none⟩ (U a6 T0.length c6)).cell? ⟨w.heap.size+1+1,0,none⟩=some (U a6 T0.length c6):=Bf _ _ _ (u:=nS) Dd;have eB:Zf (wr.drew.setCell ⟨w.heap.size+1+1,0,none⟩ (U a6 T0.length c6)) w.heap.size (U a6 T0.length c6) T0:=jcj (w1:=wr.drew) (Ez (w:=wr.drew) hT Q) (λh=>by have:=vf _ h;omega);have fS:Bw w (wr.drew.setCell ⟨w.heap.size+1+1,0,none⟩ (U a6 T0.length c6)):=(hB.trans ((rW wr).mono hB.size)).setCell (show w.heap.size<=w.heap.size+1+1 by omega) _;by_cases h6:T0.length<=600
   .have AM:(T0.length:Int)<=600:=Q
    rw[rT h6]at HX;have HQ:Hid (vcV r E w (V (.tuple #[.agg #[U a6 T0.length c6],.bool true])) (wr.drew.setCell ⟨w.heap.size+1+1,0,none⟩ (U a6 T0.length c6))):=⟨_,_,T0,rfl,eB,by rw[HX.out],λ_=>by rw[HX.out],fS⟩;clear kD ei hT eB fS HX;go_wp2_with fail;go_region
    all_goals
     go_wp2;exact ZM (v:=.tuple #[.agg #[U a6 T0.length c6],.bool true]) (by simp[results,Tryz.results145,go_sem,t0]) rfl HQ.out
   .have AM:¬(T0.length:Int)<=600:=Q
    rw[dfe h6]at HX;have HQ:Hid (vcV r E w (V (.tuple #[.agg #[U a6 T0.length c6],.bool false])) (wr.drew.setCell ⟨w.heap.size+1+1,0,none⟩ (U a6 T0.length c6))):=⟨_,_,T0,rfl,eB,by rw[HX.out],(λh=>by cases h),fS⟩;clear kD ei hT eB fS HX;go_wp2_with fail;go_region
    all_goals
     go_wp2;exact ZM (v:=.tuple #[.agg #[U a6 T0.length c6],.bool false]) (by simp[results,Tryz.results145,go_sem,t0];omega) rfl HQ.out
