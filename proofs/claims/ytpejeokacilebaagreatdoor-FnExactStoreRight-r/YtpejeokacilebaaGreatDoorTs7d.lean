/- The table of a zone: the model's l03Table, walked. -/
import Derived.Test.YtpejeokacilebaaGreatDoorTbSd
set_option maxHeartbeats 0
set_option linter.unusedSimpArgs false
namespace Go.Proofs.YtpejeokacilebaaGreatDoor
open Go.RowKit Go.Sort
structure Tst(p:Prop)(x:Value):Prop where
 ex:∃tb:Bool,x=.bool tb/\(tb=true↔p)
theorem jpg {w w6 wy w7 w8:World} {n0 n1:Nat} {p7 p8:Option Addr} {m7 c7 m8 c8:Nat} {T T':List TurnD} {x:TurnD} {v0 v1 v2 z0 z1:Value}
  (uu:Mid n0 n1 w6 wy) (Cx:n1<=wy.heap.size) (dU:Bw w wy) (ay:Below wy.drew.heap.size wy.drew w7) (jj:∀g,(Value.slice p7 m7 c7).ownBlock=some g->w.heap.size+1+1+1+1<=g) (jh:∀g,(Value.slice p7 m7 c7).ownBlock=some g->g<n0\/n1<=g)
  (cT:Fr (fun b=>(Value.slice p7 m7 c7).ownBlock=some b) w7 w8) (dF:Zf w8 (w.heap.size+1+1+1+1) (.slice p8 m8 c8) (addT T x)) (jf:(Value.slice p8 m8 c8).ownBlock=(Value.slice p7 m7 c7).ownBlock\/∃g,(Value.slice p8 m8 c8).ownBlock=some g/\w7.heap.size<=g)
  (jO:Jl w.heap.size v0 v1 v2 z0 z1 w8) (wN:∃u,w8.cell? ⟨w.heap.size+1+1+1,0,none⟩=some u) (h0:w.heap.size+1+1+1+1<=n0) (_h01:n0<=n1) (JL:T'=addT T x):
  Mid n0 n1 w6 (w8.setCell ⟨w.heap.size+1+1+1,0,none⟩ (.slice p8 m8 c8))/\n1<=(w8.setCell ⟨w.heap.size+1+1+1,0,none⟩ (.slice p8 m8 c8)).heap.size/\Jl w.heap.size v0 v1 v2 z0 z1 (w8.setCell ⟨w.heap.size+1+1+1,0,none⟩ (.slice p8 m8 c8))/\(w8.setCell ⟨w.heap.size+1+1+1,0,none⟩ (.slice p8 m8 c8)).cell? ⟨w.heap.size+1+1+1,0,none⟩=some (.slice p8 m8 c8)/\Zf (w8.setCell ⟨w.heap.size+1+1+1,0,none⟩ (.slice p8 m8 c8)) (w.heap.size+1+1+1+1) (.slice p8 m8 c8) T'/\Hid (∀g,(Value.slice p8 m8 c8).ownBlock=some g->g<n0\/n1<=g)/\Bw w (w8.setCell ⟨w.heap.size+1+1+1,0,none⟩ (.slice p8 m8 c8)):=by
 have dR:wy.drew.heap.size=wy.heap.size:=rfl
 have J6:n1<=w7.heap.size:=by have h1:=ay.size;omega
 have M7:Mid n0 n1 w6 w7:=(uu.trans (Mid.of_below (n0:=n0) (n1:=n1) (jab wy) (by omega))).trans (Mid.of_below (n0:=n0) (n1:=n1) ay (by omega))
 have M8:Mid n0 n1 w6 w8:=M7.trans fun g h1 h2=>cT.block g (by omega) fun hg=>by have:=jh g hg;omega
 have B7:Bw w w7:=(dU.trans ((jab wy).mono dU.size)).trans (ay.mono dU.size)
 have B8:Bw w w8:=B7.trans (cT.below (fun g hg=>by have:=jj g hg;omega) B7.size)
 have Cg:∀g,(Value.slice p8 m8 c8).ownBlock=some g->w.heap.size+1+1+1+1<=g:=fun g hg=>(World.ownsRow.lt dF g hg).1
 obtain⟨u,hu⟩:=wN
 refine⟨M8.trans fun g h1 h2=>heap_setCell_other w8 ⟨w.heap.size+1+1+1,0,none⟩ g _ (fun e=>by simp at e;omega),by simp;exact Nat.le_trans J6 cT.size,jO.set _,wcs _ _ _ hu,?_,fun g hg=>?_,B8.setCell (show w.heap.size<=w.heap.size+1+1+1 by omega) _⟩
 ·rw[JL]
  exact jcj dF (fun e=>by have:=Cg _ e;omega)
 ·rcases jf with h|⟨g2,h2,h3⟩
  ·exact jh g (h.symm.trans hg)
  ·rw[h2]at hg;injection hg with hg;omega
theorem jhp{e:EraD}(h0:¬e.rules.size=0):e.rules.toList.isEmpty=false:=by
 cases h:e.rules.toList with
 |nil=>exact absurd (by rw[toList_dataA]at h;rw[<- jag,h];rfl) h0
 |cons x l=>rfl
set_option maxRecDepth 20000 in
theorem jlq (r :RelD) (zn:ByteArray) (E:List EraD) (ae:Option Addr) (ce:Nat) (a b0 c:Option Addr) (ca cb cc:Nat) (w:World) (hv:Zd w (.agg #[.slice a r.rules.length ca,.slice b0 r.zones.length cb,.slice c r.links.length cc]) r) (hE:Za w ae 6 (E.map EraD.cs)) (hr:∀x∈r.rules,jaw x=true) (fk:r.rules.length<=40) (di:∀x∈r.rules,x.on.size<=1048576) (hP:∀e∈E,EraR e) (hl:E.length<=8) (hU:UntE E):
  Cl 93 #[.agg #[.slice a r.rules.length ca,.slice b0 r.zones.length cb,.slice c r.links.length cc],.agg #[.string zn,.slice ae E.length ce]] w fun q W'=>TabSP r E w q W':=by
 obtain⟨i0,hi,aG,aH,aF⟩:=info_parts jmb
 have HR:=hid hr
 have HP:=hid hP
 have HU:=hid hU
 have sY:=hid di
 have HV:=hid hv
 have ag:Bw w ((((w.alloc (.cells #[.slice a r.rules.length ca,.slice b0 r.zones.length cb,.slice c r.links.length cc] 37)).alloc (.cells #[.string zn,.slice ae E.length ce] 81)).alloc (.cells #[nS] 138)).alloc (.cells #[nS] 138)):=(((qal w _).alloc (by simp) _).alloc (by simp;omega) _).alloc (by simp;omega) _
 have EM:Jl w.heap.size (.slice a r.rules.length ca) (.slice b0 r.zones.length cb) (.slice c r.links.length cc) (.string zn) (.slice ae E.length ce) ((((w.alloc (.cells #[.slice a r.rules.length ca,.slice b0 r.zones.length cb,.slice c r.links.length cc] 37)).alloc (.cells #[.string zn,.slice ae E.length ce] 81)).alloc (.cells #[nS] 138)).alloc (.cells #[nS] 138)):=⟨by simp[go_sem],by simp[go_sem],by simp[go_sem],by simp[go_sem],by simp[go_sem],by simp[go_sem],by simp[go_sem],⟨nS,by simp[go_sem]⟩,by simp[go_sem]⟩
 have GV:((((w.alloc (.cells #[.slice a r.rules.length ca,.slice b0 r.zones.length cb,.slice c r.links.length cc] 37)).alloc (.cells #[.string zn,.slice ae E.length ce] 81)).alloc (.cells #[nS] 138)).alloc (.cells #[nS] 138)).cell? ⟨w.heap.size+1+1+1,0,none⟩=some nS:=by simp[go_sem]
 have dP:w.heap.size+1+1+1+1<=((((w.alloc (.cells #[.slice a r.rules.length ca,.slice b0 r.zones.length cb,.slice c r.links.length cc] 37)).alloc (.cells #[.string zn,.slice ae E.length ce] 81)).alloc (.cells #[nS] 138)).alloc (.cells #[nS] 138)).heap.size:=by simp
 clear hr hP hU di hv
 unfold Cl;go_in
 go_wp2
 go_loopw [7,8] (fun s7 s8 wr=>∃(k:Nat) (a6:Option Addr) (m6 c6:Nat),k<=E.length/\s7=iv (stK r E k).2/\s8=iv k/\wr.cell? ⟨w.heap.size+1+1+1,0,none⟩=some (.slice a6 m6 c6)/\Zf wr (w.heap.size+1+1+1+1) (.slice a6 m6 c6) (stK r E k).1/\Hid (okK r E k=true)/\Jl w.heap.size (.slice a r.rules.length ca) (.slice b0 r.zones.length cb) (.slice c r.links.length cc) (.string zn) (.slice ae E.length ce) wr/\w.heap.size+1+1+1+1<=wr.heap.size/\Bw w wr) (fun _ s8 _=>E.length-(intOf s8).toNat)
 case atStart=>exact⟨0,none,0,0,by omega,rfl,rfl,GV,World.ownsRow_nil _ _ _ _,rfl,EM,dP,ag⟩
 case round=>
  clear EM GV dP ag
  obtain⟨k,a6,m6,c6,hk,f8,rfl,tb,hT,iA,bx,dI,hB⟩:=hrel
  obtain⟨⟨hb1,ac⟩,fg⟩:=j1s (r:=r) (E:=E) k
  have Np:=bx.y1
  by_cases hlt:k<E.length
  ·obtain⟨e,he⟩:=qgg hlt
   have eR:=HP.out e (lmg he)
   obtain⟨be,oe,su,hc⟩:=(hE.below hB).at (i:=k) (r:=e.cs) (by rw[lgm,he];rfl)
   have c0:wr.cell? ⟨be,oe+k*6,none⟩=some (iv e.offset):=hc 0 _ rfl
   have c1:=hc 1 _ rfl
   have c2:=hc 2 _ rfl
   have c3:=hc 3 _ rfl
   have c4:=hc 4 _ rfl
   have c5:=hc 5 _ rfl
   subst su
   obtain⟨⟨T0,b⟩,ei⟩:=qeb (stK r E k)
   rw[ei]at hT f8 hb1 ac fg
   simp only at hT f8 hb1 ac fg
   subst f8
   have dB:=qal wr (.cells #[iv e.offset,.string e.rules,iv e.save,.string e.format,iv e.until_,.string e.of] 133)
   have aj:Bw w (wr.alloc (.cells #[iv e.offset,.string e.rules,iv e.save,.string e.format,iv e.until_,.string e.of] 133)):=hB.alloc (by omega) _
   have tm:=bx.below dB
   have wO:=jaa dB tb
   have eU:=tm.x0
   have eV:=tm.x1
   have eW:=tm.x2
   obtain⟨jP,jR,jT,jV,jX,jZ⟩:(fun z:World=>z.cell? ⟨wr.heap.size,0,none⟩=some (iv e.offset)/\z.cell? ⟨wr.heap.size,1,none⟩=some (.string e.rules)/\z.cell? ⟨wr.heap.size,2,none⟩=some (iv e.save)/\z.cell? ⟨wr.heap.size,3,none⟩=some (.string e.format)/\z.cell? ⟨wr.heap.size,4,none⟩=some (iv e.until_)/\z.cell? ⟨wr.heap.size,5,none⟩=some (.string e.of)) (wr.alloc (.cells #[iv e.offset,.string e.rules,iv e.save,.string e.format,iv e.until_,.string e.of] 133)):=by simp[go_sem]
   have hH:=jm6 r _ e.rules e.offset (wr.alloc (.cells #[iv e.offset,.string e.rules,iv e.save,.string e.format,iv e.until_,.string e.of] 133)) (HV.out.below aj) HR.out fk sY.out eR.off.1 eR.off.2
   have bU:(wr.alloc (.cells #[iv e.offset,.string e.rules,iv e.save,.string e.format,iv e.until_,.string e.of] 133)).heap.size=wr.heap.size+1:=by simp
   rw[bU]at hH
   have eY:(k:Int)<(E.length:Int):=by omega
   clear hc
   go_wp2_with fail
   refine hH.mono ?_
   rintro q w2 ⟨v2,H,bb,rfl,aW,cY,bu⟩
   obtain⟨pK,iZ⟩:=jz2 cY
   obtain⟨a2,fJ,rfl,mZ⟩:=aW.seq
   have an:=aj.trans (bu.mono (by omega))
   have cC:Below ((wr.alloc (.cells #[iv e.offset,.string e.rules,iv e.save,.string e.format,iv e.until_,.string e.of] 133))).heap.size ((wr.alloc (.cells #[iv e.offset,.string e.rules,iv e.save,.string e.format,iv e.until_,.string e.of] 133))) w2:=by first|exact bu|exact bU.symm ▸ bu
   have xA:=tm.below cC
   have wP:=jaa cC wO
   have jQ:=jaa cC jP
   have jS:=jaa cC jR
   have jU:=jaa cC jT
   have jW:=jaa cC jV
   have jY:=jaa cC jX
   have k8:=jaa cC jZ
   have gU:Zf w2 (w.heap.size+1+1+1+1) (.slice a6 m6 c6) T0:=jac (jac hT dB) cC
   have jg:∀g,(Value.slice a6 m6 c6).ownBlock=some g->g<wr.heap.size:=fun g hg=>(World.ownsRow.lt hT g hg).2
   have vf:∀g,(Value.slice a6 m6 c6).ownBlock=some g->w.heap.size+1+1+1+1<=g:=fun g hg=>(World.ownsRow.lt hT g hg).1
   cases bb with
   |false=>
    have oF:¬e.rules.size=0:=fun h=>by have:=jk2 (off:=e.offset) HR.out h;rw[this]at iZ;cases iZ
    have az:e.rules.toList.isEmpty=false:=jhp oF
    have HX:Hid ((tabE r E).2=false):=by simp only[Hid,tabE];rw[j04 he iZ.symm hlt];rfl
    have ip:=xA.r0
    have oW:=xA.f0
    have t0:(w2.setCell ⟨w.heap.size+1+1,0,none⟩ (.slice a6 m6 c6)).cell? ⟨w.heap.size+1+1,0,none⟩=some (.slice a6 m6 c6):=wcs _ _ _ ip
    have HQ:Hid (TabSP r E w (.returned (.tuple #[.agg #[.slice a6 m6 c6],.bool false])) (w2.setCell ⟨w.heap.size+1+1,0,none⟩ (.slice a6 m6 c6))):=⟨_,_,T0,rfl,jcj (jaj gU (by omega)) (fun h=>by have:=vf _ h;omega),HX.out.symm,(fun h=>by cases h),an.setCell (show w.heap.size<=w.heap.size+1+1 by omega) _⟩
    clear hH cY pK iZ aW mZ HX gU bu cC
    go_wp2
    exact bpr (v:=.tuple #[.agg #[.slice a6 m6 c6],.bool false]) (by simp[results,Tryz.results93,go_sem,t0]) rfl HQ.out
   |true=>
    have rQ:Hid (okK r E (k+1)=true):=jvx he iZ.symm iA.out
    have nW:=jmi (nm:=e.rules) HR.out eR.off.1 eR.off.2
    have jA:=jea (r:=r) (nm:=e.rules) (off:=e.offset)
    have mh:=fun h=>jln (r:=r) (T:=T0) (b:=b) he h ei
    have fY:=fun h=>jlm (r:=r) (T:=T0) (b:=b) he h ei
    have Bj:=fun h=>congrArg Prod.fst (jk2 (nm:=e.rules) (off:=e.offset) HR.out h)
    rw[<- pK]at nW jA mh fY Bj
    have lQ:=hid Bj
    have xf:=hid nW
    have nD:Hid (∀t,(-7200<=(jas e H t).save/\(jas e H t).save<=7200)/\(jas e H t).letter.size<=6):=jmk eR nW
    have BW:=eR.fmt
    have iI:=eR.off.1
    have sB:=eR.off.2
    have gZ:∀b o,a2=some ⟨b,o,none⟩->wr.heap.size<=b/\b<w2.heap.size:=fun b o h=>by
     have h1:=World.ownsRow.lt aW b (by rw[h];rfl)
     omega
    have jy:=jpp e H a2 fJ b w2 mZ jA (by omega) (fun t=>by have:=(nD.out t).2;omega) eR.unt.1 eR.unt.2 iI sB (fun t=>(nD.out t).1) ac
    have tZ:=fun h=>jxk HU.out he h H b
    have u9:=fun h=>jxj HU.out he h H b
    simp only[EraD.v]at jy
    have CH:wr.heap.size+1<=w2.heap.size:=by have h:=bu.size;rw[bU]at h;exact h
    clear hH cY pK iZ aW ei iA hT nW Bj bu cC tm wO bx tb dB bU aj c0 c1 c2 c3 c4 c5 jP jR jT jV jX jZ eU eV eW
    obtain⟨en,fi⟩:=qeb (endS e H b)
    rw[fi]at jy tZ u9
    go_wp2_with fail
    refine jy.mono ?_
    rintro q w3 ⟨rfl,bl⟩
    have ax:=qtr an bl
    have xB:=xA.below bl
    have dE:=jac gU bl
    have nc:=mZ.below bl
    have rF:=jaa bl wP
    have fM:=jaa bl jQ
    have eJ:=jaa bl jS
    have fN:=jaa bl jU
    have fO:=jaa bl jW
    have fP:=jaa bl jY
    have fQ:=jaa bl k8
    have pQ:wr.heap.size<w3.heap.size:=by have h1:=bl.size;omega
    have DN:=xB.y1
    obtain⟨n0,mE⟩:=qeb wr.heap.size
    have FL:∀b o,a2=some ⟨b,o,none⟩->n0<=b/\b<w3.heap.size:=fun b o h=>by have h1:=gZ b o h;have h2:=bl.size;omega
    have gZ:=FL
    rw[mE]at jg pQ dI fM eJ fN fO fP fQ
    rw[mE]
    clear FL jy bl gU mZ xA wP an jQ jS jU jW jY k8 CH mE
    have sj:Zs (w3.alloc (.cells #[] 2)) w3.heap.size (.slice (some ⟨w3.heap.size,0,none⟩) 0 0) []:=ja5 w3 2 1
    have No:=jaa (qal w3 (.cells #[] 2)) DN
    by_cases dN:b<en\/k+1=E.length
    ·have HS : Hid (stK r E (k+1)=(ja8 (turnE e H) (atsF b (inX H b en)) T0,en)):=by
      by_cases hla:k+1=E.length
      ·simp only[Hid];rw[mh hla,tZ hla]
      ·rw[u9 hla]at dN ⊢
       simp only[Hid]
       rw[fY hla,if_pos (dN.resolve_right hla)]
     have ox:b<en\/(¬b<en/\en=b/\((k:Int)==(E.length:Int)-1)=true):=by
      by_cases h:b<en
      ·exact .inl h
      ·refine .inr ⟨h,?_,by have:=dN.resolve_left h;simp;omega⟩
       have h1:=tZ (dN.resolve_left h)
       omega
     clear mh fY tZ u9 fi dN
     go_upto_region 12 with fail
     go_cut [68]from 19 to 161 (fun x wx=>x=.bool true/\wx=(w3.alloc (.cells #[] 2)))
     case first=>
      rcases ox with g1|⟨g1,g2,g3⟩
      ·go_wp2
       go_meet
       exact⟨rfl,rfl⟩
      ·have g4:b<=en:=by omega
       clear g2
       go_wp2
       go_meet
       exact⟨rfl,rfl⟩
     case rest =>
      obtain⟨rfl,rfl⟩:=hcut
      clear ox
      go_wp2_with (first
       |(at_builtin;refine wpList_append_own _ rfl _ _ 164 rfl w3.heap.size 2 i0 (iv 0) 1 8 Tryz.underlying164 hi aG aH aF rfl (by decide) (.slice (some ⟨w3.heap.size,0,none⟩) 0 0) 0 [] rfl (woa sj _) ⟨w3.heap.size+1,0,none⟩ 1 1 [iv b] rfl rfl (by simpa using cell_one_new (w3.alloc (.cells #[] 2)) (iv b) 2) (by intro u hu;simp at hu;subst hu;rfl) (by unfold maxLen;simp) (by simp) (by simp;omega) ?_)
       |fail)
      intro vA wA kI uX _
      obtain⟨pA,GF,EQ,rfl⟩:=jad kI
      have aD:Bw w3 wA:=((qal w3 _).alloc (by simp) _).grown uX (by simp;omega) (fun j hj=>by simp[Value.ownBlock]at hj;omega)
      have uz:Zs wA w3.heap.size (.slice pA GF EQ) ((inX (H.take 0) b en).foldl insA [b]):=by simpa [Zs,inX]using kI
      clear kI uX sj
      go_wp2
      go_loopw [13,14] (fun Dg kY wq=>∃(j:Nat) (p:Option Addr) (m c:Nat),j<=H.length/\kY=iv j/\Dg=.slice p m c/\Zs wq w3.heap.size (.slice p m c) ((inX (H.take j) b en).foldl insA [b])/\Bw w3 wq) (fun _ kY _=>H.length-(intOf kY).toNat)
      case atStart=>exact⟨0,pA,GF,EQ,by omega,rfl,rfl,uz,aD⟩
      case round=>
       obtain⟨wp,CI⟩:=qea wr
       subst CI
       obtain⟨j,aA,mA,cA,hj,rfl,rfl,bI,aY⟩:=hrel
       clear uz aD
       by_cases eP:j<H.length
       ·obtain⟨x,hx⟩:=qgg eP
        obtain⟨bh,oh,sw,dY⟩:=(nc.below aY).at (i:=j) (r:=x.cs) (by rw[lgm,hx];rfl)
        have e0:wp.cell? ⟨bh,oh+j*3,none⟩=some (iv x.at_):=dY 0 _ rfl
        have oF:¬e.rules.size=0:=fun h=>by have:=lQ.out h;rw[this]at eP;simp at eP
        have az:e.rules.toList.isEmpty=false:=jhp oF
        have oV:=jaa aY eJ
        have Cb:(j:Int)<(H.length:Int):=by omega
        have rS:=jr6 (b:=b) (e:=en) hx
        have ma:((inX (H.take j) b en).foldl insA [b]).length<=100000:=by
         have h1:=jjs b (inX (H.take j) b en)
         have h2:=jdo (H.take j) b en
         have h3:(H.take j).length<=2000:=by rw[List.length_take];omega
         unfold atsF at h1
         omega
        have lu:=jsk (X:=inX (H.take j) b en) (A:=[b]) (by simp)
        have sf:0<((inX (H.take j) b en).foldl insA [b]).length:=List.length_pos_of_mem ((lu.2 b).mpr (.inl (by simp)))
        by_cases hin:b<x.at_/\x.at_<en
        ·rw[if_pos hin]at rS
         have yX:Hid ((inX (H.take (j+1)) b en).foldl insA [b]=insA ((inX (H.take j) b en).foldl insA [b]) x.at_):=by simp only[Hid];rw[rS,List.foldl_append];rfl
         have EX:=jls ((inX (H.take j) b en).foldl insA [b]) (.slice aA mA cA) x.at_ w3.heap.size wp bI aY.size sf ma lu.1
         obtain⟨g1,g2⟩:=hin
         generalize (inX (H.take j) b en).foldl insA [b]=L at *
         subst sw
         clear rS dY hx lu bI
         go_wp2_with fail
         refine EX.mono ?_
         rintro q w7 ⟨v7,rfl,cj,ay⟩
         obtain⟨p7,m7,c7,rfl⟩:=jad cj
         have rP:Hid (Zs w7 w3.heap.size (.slice p7 m7 c7) ((inX (H.take (j+1)) b en).foldl insA [b])):=by rw[yX.out];exact cj
         clear cj EX
         go_wp2
         go_roundw
         case rel=>exact⟨j+1,p7,m7,c7,by omega,by go_num,rfl,rP.out,aY.trans ay⟩
         case measure=>simp[intOf];omega
        ·rw[if_neg hin,List.append_nil]at rS
         have rP:Hid (Zs wp w3.heap.size (.slice aA mA cA) ((inX (H.take (j+1)) b en).foldl insA [b])):=by rw[rS];exact bI
         subst sw
         clear rS dY hx lu bI sf ma
         by_cases g1:b<x.at_
         ·have g2:¬x.at_<en:=fun h=>hin ⟨g1,h⟩
          clear hin
          go_wp2
          go_roundw
          case rel=>exact⟨j+1,aA,mA,cA,by omega,by go_num,rfl,rP.out,aY⟩
          case measure=>simp[intOf];omega
         ·clear hin
          go_wp2
          go_roundw
          case rel=>exact⟨j+1,aA,mA,cA,by omega,by go_num,rfl,rP.out,aY⟩
          case measure=>simp[intOf];omega
       ·have jd:j=H.length:=by omega
        have Cb:¬(j:Int)<(H.length:Int):=by omega
        rw[jd,List.take_length]at bI
        have bG:=qtr ax aY
        have EN:=xB.below aY
        have fe:=jac dE aY
        have Dw:=nc.below aY
        have wQ:=jaa aY rF
        have iT:=jaa aY fM
        have iU:=jaa aY eJ
        have iV:=jaa aY fN
        have iW:=jaa aY fO
        have iX:=jaa aY fP
        have iY:=jaa aY fQ
        have si:w3.heap.size<=wp.heap.size:=aY.size
        obtain⟨w5,oK⟩:=qea wp
        subst oK
        obtain⟨n3,vk⟩:=qeb w3.heap.size
        rw[vk]at bI si gZ pQ
        obtain⟨A,tR⟩:=qeb (atsF b (inX H b en))
        have Fm:Zs w5 n3 (.slice aA mA cA) A:=by rw[<- tR];exact bI
        have Hf:Hid (A.Pairwise (· < ·)):=by rw[<- tR];exact(jsk (X:=inX H b en) (A:=[b]) (by simp)).1
        have kh:A.length<=2001:=by have h1:=jjs b (inX H b en);have h2:=jdo H b en;rw[tR]at h1;omega
        rw[tR]at HS
        have KF:w.heap.size+1+1+1+1<=n3:=by have h1:=pQ;omega
        have Kn:n0<n3:=by omega
        clear jd bI tR aY dE nc xB rF ax vk
        clear fM eJ fN fO fP fQ
        have ur:=fun w (h:Za w a2 3 (H.map HapD.cs))=>jgq H a2 fJ w h jA (fun h hh=>(xf.out h hh).at_)
        go_wp2_with fail
        refine(ur _ Dw).mono ?_
        rintro q w6 ⟨rfl,xH,hb6⟩
        have cp:=qtr bG hb6
        have xC:=EN.below hb6
        have fV:=jac fe hb6
        have Me:=Dw.below hb6
        have nj:=jaa hb6 wQ
        have zi:=jaa hb6 iT
        have zm:=jaa hb6 iU
        have zu:=jaa hb6 iV
        have zz:=jaa hb6 iW
        have zD:=jaa hb6 iX
        have zH:=jaa hb6 iY
        obtain⟨g5,xX⟩:=qeb w5.heap.size
        obtain⟨n1,iO⟩:=qeb w6.heap.size
        have ON:g5<=n1:=by rw[<- xX, <- iO];exact hb6.size
        rw[xX]at xH ⊢
        have Ht:Hid (∀i t,(sufM H)[i]? =some t->w6.cell? ⟨g5,i,none⟩=some (iv t)):=fun i t h=>xH i t (Nat.zero_le _) h
        have AP:Zs w6 n3 (.slice aA mA cA) A:=jac Fm hb6
        have Kk:mA=A.length:=by
         rcases AP.2 with⟨h,h0⟩|⟨g,cap,cur,h,_⟩
         ·injection h with h1 h2 h3;omega
         ·injection h
        subst Kk
        have K4:n3<=g5:=by rw[<- xX];exact si
        have He:Hid (∀(i:Nat) x,A[i]? =some x->∃gA,aA=some ⟨gA,0,none⟩/\n3<=gA/\gA<n1/\w6.cell? ⟨gA,i,none⟩=some (iv x)):=fun i x hx=>by
         obtain⟨g,cap,hv,_,hg,jG,hc⟩:=AP.open (by have:=(lgs hx).1;omega)
         injection hv with ej eQ eS
         exact⟨g,ej,jG,by rw[<- iO];exact hg,hc i x hx⟩
        have oD:∀g,(Value.slice a6 m6 c6).ownBlock=some g->g<n0\/n1<=g:=fun g hg=>.inl (jg g hg)
        have qH:n1<=w6.heap.size:=by omega
        have C1:0<H.length->g5<n1:=fun h=>by
         obtain⟨u,hu⟩:∃u,(sufM H)[0]? =some u:=⟨_,lgg (by rw[jcc];exact h)⟩
         have:=qbl (xH 0 u (nlr _) hu)
         simp at this
         omega
        have bT:n0<n1:=by omega
        have tN:∀bb oo,a2=some ⟨bb,oo,none⟩->n0<=bb/\bb<n1:=fun bb oo h=>by have:=gZ bb oo h;omega
        have xt:Hid ((sufM H).length=H.length):=jcc H
        have Hs:Hid (∀i k,i<=k->k<=H.length->ja1 (sufM H) i<=ja1 (sufM H) k):=fun i k h1 h2=>jrx h1 h2
        have sW:Hid (∀t m,m<=H.length->(∀i,i<m->ja1 (sufM H) i<=t)->(∀i,m<=i->i<H.length->t<ja1 (sufM H) i)->hcnt H t=m):=fun t m h1 h2 h3=>jwe (fun h hh=>(xf.out h hh).at_) h1 (fun i hi=>by have:=h2 i hi;omega) h3
        generalize sufM H=SU at *
        clear xH hb6 fe Dw EN wQ AP Fm iO xX ur
        clear iT iU iV iW iX iY
        go_wp2
        go_loopw [16,17] (fun wj wk wq=>∃(j nn:Nat) (p7:Option Addr) (m7 c7:Nat),j<=A.length/\wk=iv j/\wj=iv nn/\nn<=H.length/\Hid (∀i,i<nn->∀j2 t,j<=j2->A[j2]? =some t->ja1 SU i<=t)/\wq.cell? ⟨w.heap.size+1+1+1,0,none⟩=some (.slice p7 m7 c7)/\Zf wq (w.heap.size+1+1+1+1) (.slice p7 m7 c7) (ja8 (turnE e H) (A.take j) T0)/\Hid (∀g,(Value.slice p7 m7 c7).ownBlock=some g->g<n0\/n1<=g)/\Mid n0 n1 w6 wq/\n1<=wq.heap.size/\Jl w.heap.size (.slice a r.rules.length ca) (.slice b0 r.zones.length cb) (.slice c r.links.length cc) (.string zn) (.slice (some ⟨be,oe,none⟩) E.length ce) wq/\Bw w wq) (fun _ wk _=>A.length-(intOf wk).toNat)
        case atStart=>exact⟨0,0,a6,m6,c6,by omega,rfl,rfl,by omega,fun i hi=>by omega,nj,fV,oD,Mid.refl _ _ _,qH,xC,cp⟩
        case round=>
         obtain⟨wq,qQ⟩:=qea wr
         subst qQ
         obtain⟨j,nn,a7,m7,c7,hj,rfl,rfl,mI,JG,GW,bI,jh,du,iQ,EO,dt⟩:=hrel
         clear oD fV xC nj cp
         by_cases eP:j<A.length
         ·obtain⟨t,ht⟩:=qgg eP
          obtain⟨gA,rfl,K5,C4,FP⟩:=He.out j t ht
          have tu:wq.cell? ⟨gA,j,none⟩=some (iv t):=du.cell (by omega) C4 FP
          have Hw:Hid (∀i,i<nn->ja1 SU i<=t):=fun i hi=>JG.out i hi j t (nlr _) ht
          have lj:Hid (ja8 (turnE e H) (A.take (j+1)) T0=addT (ja8 (turnE e H) (A.take j) T0) (turnE e H t)):=by simp only[Hid];rw[List.take_add_one,ht];exact jgk _ _ _ _
          have oj:(ja8 (turnE e H) (A.take j) T0).length<=100000:=by
           have h1:=jec (turnE e H) (A.take j) T0
           have h2:(A.take j).length<=A.length:=by rw[List.length_take];omega
           omega
          obtain⟨TT,eD⟩:=qeb (ja8 (turnE e H) (A.take j) T0)
          rw[eD]at bI lj oj
          have jj:∀g,(Value.slice a7 m7 c7).ownBlock=some g->w.heap.size+1+1+1+1<=g:=fun g hg=>(World.ownsRow.lt bI g hg).1
          have I9:Hid (∀j2 t2,j+1<=j2->A[j2]? =some t2->t<=t2):=fun j2 t2 h1 h2=>by have:=j0v Hf.out (i:=j) (k:=j2) (by omega) ht h2;omega
          have zk:=du.cell (nlr _) bT zi
          have oV:=du.cell (nlr _) bT zm
          have zx:=du.cell (nlr _) bT zu
          have zB:=du.cell (nlr _) bT zz
          have zF:=du.cell (nlr _) bT zD
          have zJ:=du.cell (nlr _) bT zH
          have OW:(j:Int)<(A.length:Int):=by omega
          clear eD FP ht
          go_wp2
          go_loopw [16] (fun wj wz=>∃n2:Nat,n2<=H.length/\wj=iv n2/\Hid (∀i,i<n2->ja1 SU i<=t)/\Bw wq wz) (fun wj _=>H.length-(intOf wj).toNat)
          case atStart=>exact⟨nn,mI,rfl,Hw,brf _ _⟩
          case round=>
           obtain⟨wz,gp⟩:=qea wr
           subst gp
           obtain⟨n2,gF,rfl,pP,ov⟩:=hrel
           have Iv:=jaa ov tu
           go_upto_region 24 with fail
           go_cut [129]from 115 to 131 (fun x wx=>Tst (n2<H.length/\ja1 SU n2<=t) x/\Bw wq wx)
           case first=>
            by_cases iJ:n2<H.length
            ·obtain⟨u,hu⟩:∃u,SU[n2]? =some u:=⟨_,lgg (by rw[xt.out];exact iJ)⟩
             have cu:wz.cell? ⟨g5,n2,none⟩=some (iv u):=jaa ov (du.cell (by omega) (C1 (by omega)) (Ht.out n2 u hu))
             have oz:decide ((n2:Int)<(H.length:Int))=true:=dte (by omega)
             have bR:(n2:Int)<(H.length:Int):=by omega
             have yc:=jdm hu
             by_cases cr:u<=t
             ·have hd:decide (u<=t)=true:=dte cr
              have tg:Hid (Tst (n2<H.length/\ja1 SU n2<=t) (.bool true)):=⟨true,rfl,fun _=>⟨iJ,by rw[yc];exact cr⟩,fun _=>rfl⟩
              clear hu yc
              go_quiet (fail)
              go_wp2
              go_meet
              exact⟨tg.out,below_drewN ov _⟩
             ·have hd:decide (u<=t)=false:=dfe cr
              have tg:Hid (Tst (n2<H.length/\ja1 SU n2<=t) (.bool false)):=⟨false,rfl,(fun h=>by cases h),fun h=>absurd (by rw[<- yc];exact h.2) cr⟩
              clear hu yc
              go_quiet (fail)
              go_wp2
              go_meet
              exact⟨tg.out,below_drewN ov _⟩
            ·have oz:decide ((n2:Int)<(H.length:Int))=false:=dfe (by omega)
             have tg:Hid (Tst (n2<H.length/\ja1 SU n2<=t) (.bool false)):=⟨false,rfl,(fun h=>by cases h),fun h=>absurd h.1 iJ⟩
             go_quiet (fail)
             go_wp2
             go_meet
             exact⟨tg.out,below_drewN ov _⟩
           case rest=>
            obtain⟨qm,iG⟩:=hcut
            obtain⟨tb,rfl,mP⟩:=qm.ex
            obtain⟨wy,dl⟩:=qea wc
            subst dl
            cases tb with
            | true=>
             obtain⟨iJ,cr⟩:=mP.mp rfl
             have jt:Hid (∀i,i<n2+1->ja1 SU i<=t):=fun i hi=>by
              by_cases e:i=n2
              ·rw[e];exact cr
              ·exact pP.out i (by omega)
             clear mP qm cr
             go_wp2
             go_roundw
             case rel=>exact⟨n2+1,by omega,by go_num,jt,iG⟩
             case measure=>simp[intOf];omega
            |false=>
             have yB:Hid (hcnt H t=n2):=sW.out t n2 gF pP.out fun i h1 h2=>by
              have h3:¬(n2<H.length/\ja1 SU n2<=t):=fun h=>by have:=mP.mpr h;cases this
              have h4:=Hs.out n2 i h1 (by omega)
              have h5:¬ja1 SU n2<=t:=fun h=>h3 ⟨by omega,h⟩
              omega
             clear mP qm
             have En:Hid (∀i,i<n2->∀j2 t2,j+1<=j2->A[j2]? =some t2->ja1 SU i<=t2):=fun i hi j2 t2 h1 h2=>by
              have h3:=pP.out i hi
              have h4:=I9.out j2 t2 h1 h2
              omega
             obtain⟨X,hX⟩:=qeb (turnE e H t)
             rw[hX]at lj
             have ir:=fun w1 h1 h2=>jpq TT X (.slice a7 m7 c7) (w.heap.size+1+1+1+1) w1 h1 h2 oj
             have fv:=fun w1 (h:Za w1 a2 3 (H.map HapD.cs))=>jgo e H a2 fJ t w1 h jA (by omega) (fun t=>by have:=(nD.out t).2;omega) iI sB (fun t=>(nD.out t).1)
             rw[hX]at fv
             obtain⟨xa,xo,xs,xb⟩:=X
             simp only[TurnD.v,EraD.v]at fv ir
             have tw:=jaa iG tu
             have tz:=jaa iG zk
             have tA:=jaa iG oV
             have tC:=jaa iG zx
             have tD:=jaa iG zB
             have tE:=jaa iG zF
             have tG:=jaa iG zJ
             have wR:=jaa iG GW
             have Fo:Zf wy (w.heap.size+1+1+1+1) (.slice a7 m7 c7) TT:=jac bI iG
             have uu:Mid n0 n1 w6 wy:=du.trans (Mid.of_below iG iQ)
             have Cx:n1<=wy.heap.size:=Nat.le_trans iQ iG.size
             have EP:=EO.below iG
             have dU:Bw w wy:=qtr dt iG
             have GS:Za wy a2 3 (H.map HapD.cs):=Me.mid uu tN
             clear pP
             cases n2 with
             | zero=>
              clear hX yB
              have C9:j+1<=A.length:=by omega
              have kP:w.heap.size+1+1+1+1<=n0:=dI
              have kG:n0<=n1:=by omega
              have pS:Zf wy.drew (w.heap.size+1+1+1+1) (.slice a7 m7 c7) TT:=Fo
              have oT:=EP.below (jab wy)
              have AX:Bw w wy.drew:=dU.trans ((jab wy).mono dU.size)
              go_wp2_with fail
              go_region_with (first|(go_at_call 131;refine(fv _ (GS.below (jab _))).mono ?_;rintro q7 w7 ⟨rfl,ay⟩;have zj:=jaa ay tz;have zp:=jaa ay tA;have zw:=jaa ay tC;have zA:=jaa ay tD;have zE:=jaa ay tE;have zI:=jaa ay tG;have zg:=jaa ay tw;have Dy:=jaa ay wR;have cj:Zf w7 (w.heap.size+1+1+1+1) (.slice a7 m7 c7) TT:=jac pS ay;have tq:=oT.below ay)|(go_at_call 129;refine(ir _ cj (by have h1:=ay.size;have h2:wy.drew.heap.size=wy.heap.size:=rfl;omega)).mono ?_;rintro q8 w8 ⟨v8,rfl,dF,cT,jf⟩;obtain⟨p8,m8,c8,rfl⟩:=jad dF;have jO:=tq.fr cT (fun g hg=>jj g hg);have NF:=jO.f1;obtain⟨u8,wN⟩:=jO.t))
              all_goals
               obtain⟨M9,S9,zd,t9,yQ,yI,B9⟩:=jpg uu Cx dU ay jj jh.out cT dF jf jO ⟨u8,wN⟩ kP kG lj.out
               clear dF cT jf ay cj tq jO fv ir
               go_wp2
               go_roundw
               case rel=>exact⟨j+1,0,p8,m8,c8,C9,by go_num,rfl,gF,En,t9,yQ,yI,M9,S9,zd,B9⟩
               case measure=>simp[intOf];omega
             | succ p=>
              have eG:p<H.length:=by omega
              obtain⟨x,hx⟩:=qgg eG
              have oF:¬e.rules.size=0:=fun h=>by have:=lQ.out h;rw[this]at eG;simp at eG
              have az:e.rules.toList.isEmpty=false:=jhp oF
              have gw:jdl e x t=⟨xa,xo,xs,xb⟩:=by
               rw[<- hX,turnE,jen oF,yB.out]
               simp only[jdd]
               rw[hx]
               rfl
              have sN:=xf.out x (lmg hx)
              have ko:=fun w1=>jgp e x t w1 (by omega) (by have:=sN.letter;omega) iI sB sN.save.1 sN.save.2
              rw[gw]at ko
              simp only[TurnD.v,HapD.v,EraD.v]at ko
              have Pd:(p:Int)<(H.length:Int):=by omega
              have JV:IntKind.i64.wrap ((p:Int)+1-1)=p:=by rw[IntKind.wrap_i64];omega
              have JU:IntKind.i64.wrap (p:Int)=p:=by rw[IntKind.wrap_i64];omega
              obtain⟨bh,oh,sw,dY⟩:=GS.at (i:=p) (r:=x.cs) (by rw[lgm,hx];rfl)
              have zK:wy.cell? ⟨bh,oh+p*3,none⟩=some (iv x.at_):=dY 0 _ rfl
              have zL:=dY 1 _ rfl
              have zM:=dY 2 _ rfl
              subst sw
              clear dY hX yB hx gw sN
              have C9:j+1<=A.length:=by omega
              have kP:w.heap.size+1+1+1+1<=n0:=dI
              have kG:n0<=n1:=by omega
              have pS:Zf wy.drew (w.heap.size+1+1+1+1) (.slice a7 m7 c7) TT:=Fo
              have oT:=EP.below (jab wy)
              have AX:Bw w wy.drew:=dU.trans ((jab wy).mono dU.size)
              go_wp2_with fail
              go_region_with (first|(go_at_call 130;refine(ko _).mono ?_;rintro q7 w7 ⟨rfl,ay⟩;have zj:=jaa ay tz;have zp:=jaa ay tA;have zw:=jaa ay tC;have zA:=jaa ay tD;have zE:=jaa ay tE;have zI:=jaa ay tG;have zg:=jaa ay tw;have Dy:=jaa ay wR;have IC:=jaa ay zK;have ID:=jaa ay zL;have IF:=jaa ay zM;have cj:Zf w7 (w.heap.size+1+1+1+1) (.slice a7 m7 c7) TT:=jac pS ay;have tq:=oT.below ay)|(go_at_call 129;refine(ir _ cj (by have h1:=ay.size;have h2:wy.drew.heap.size=wy.heap.size:=rfl;omega)).mono ?_;rintro q8 w8 ⟨v8,rfl,dF,cT,jf⟩;obtain⟨p8,m8,c8,rfl⟩:=jad dF;have jO:=tq.fr cT (fun g hg=>jj g hg);have NF:=jO.f1;obtain⟨u8,wN⟩:=jO.t))
              all_goals
               obtain⟨M9,S9,zd,t9,yQ,yI,B9⟩:=jpg uu Cx dU ay jj jh.out cT dF jf jO ⟨u8,wN⟩ kP kG lj.out
               clear dF cT jf ay cj tq jO fv ir ko
               go_wp2
               go_roundw
               case rel=>exact⟨j+1,p+1,p8,m8,c8,C9,by go_num,rfl,gF,En,t9,yQ,yI,M9,S9,zd,B9⟩
               case measure=>simp[intOf];omega
         ·have jd:j=A.length:=by omega
          have lP:Hid (Zf wq (w.heap.size+1+1+1+1) (.slice a7 m7 c7) (stK r E (k+1)).1):=by rw[HS.out];simp only;rw[jd,List.take_length]at bI;exact bI
          have mC:¬(j:Int)<(A.length:Int):=by omega
          have lN:Hid ((stK r E (k+1)).2=en):=by simp only[Hid];rw[HS.out]
          clear jd
          go_wp2
          go_roundw
          case rel=>exact⟨k+1,a7,m7,c7,by omega,by rw[lN.out],by go_num,GW,lP.out,rQ,EO,by omega,dt⟩
          case measure=>simp[intOf];omega
    ·have hla:¬k+1=E.length:=fun h=>dN (.inr h)
     have g1:¬b<en:=fun h=>dN (.inl h)
     have HS:Hid (stK r E (k+1)=(T0,en)):=by
      have h1:=u9 hla
      simp only[Hid]
      rw[fY hla, <- h1,if_neg g1]
     have hq:((k:Int)==(E.length:Int)-1)=false:=by simp;omega
     have ur:=fun w (h:Za w a2 3 (H.map HapD.cs))=>jgq H a2 fJ w h jA (fun h hh=>(xf.out h hh).at_)
     have JT:=qal w3 (.cells #[] 2)
     clear mh fY tZ u9 fi dN hla
     go_wp2
     go_loopw [13,14] (fun Dg kY wq=>∃j:Nat,j<=H.length/\Dg=.slice (some ⟨w3.heap.size,0,none⟩) 0 0/\kY=iv j/\Bw w3 wq) (fun _ kY _=>H.length-(intOf kY).toNat)
     case atStart=>exact⟨0,by omega,rfl,rfl,JT⟩
     case round=>
      obtain⟨wp,CI⟩:=qea wr
      subst CI
      obtain⟨j,hj,rfl,rfl,aY⟩:=hrel
      by_cases eP:j<H.length
      ·obtain⟨x,hx⟩:=qgg eP
       obtain⟨bh,oh,sw,dY⟩:=(nc.below aY).at (i:=j) (r:=x.cs) (by rw[lgm,hx];rfl)
       have e0:wp.cell? ⟨bh,oh+j*3,none⟩=some (iv x.at_):=dY 0 _ rfl
       have oF:¬e.rules.size=0:=fun h=>by have:=lQ.out h;rw[this]at eP;simp at eP
       have az:e.rules.toList.isEmpty=false:=jhp oF
       have oV:=jaa aY eJ
       have Cb:(j:Int)<(H.length:Int):=by omega
       subst sw
       clear dY hx
       by_cases g5:b<x.at_
       ·have g2:¬x.at_<en:=by omega
        go_wp2
        go_roundw
        case rel=>exact⟨j+1,by omega,rfl,by go_num,aY⟩
        case measure=>simp[intOf];omega
       ·go_wp2
        go_roundw
        case rel=>exact⟨j+1,by omega,rfl,by go_num,aY⟩
        case measure=>simp[intOf];omega
      ·have Cb:¬(j:Int)<(H.length:Int):=by omega
       go_wp2_with fail
       refine(ur _ (nc.below aY)).mono ?_
       rintro q w6 ⟨rfl,_,hb6⟩
       have kw:Bw w3 w6:=qtr aY hb6
       have cp:=qtr ax kw
       have xC:=xB.below kw
       have nj:=jaa kw rF
       have lP:Hid (Zf w6 (w.heap.size+1+1+1+1) (.slice a6 m6 c6) (stK r E (k+1)).1):=by rw[HS.out];exact jac dE kw
       have lN:Hid ((stK r E (k+1)).2=en):=by simp only[Hid];rw[HS.out]
       have qM:w.heap.size+1+1+1+1<=w6.heap.size:=by have h1:=kw.size;omega
       clear hb6 ur
       go_wp2
       go_loopw [16,17] (fun _ wk wq=>wk=iv 0/\wq=w6) (fun _ _ _=>0)
       case atStart=>exact⟨rfl,rfl⟩
       case round=>
        obtain⟨wx,bC⟩:=qea wr
        subst bC
        obtain⟨rfl,qO⟩:=hrel
        subst qO
        go_wp2
        go_roundw
        case rel=>exact⟨k+1,a6,m6,c6,by omega,by rw[lN.out],by go_num,nj,lP.out,rQ,xC,qM,cp⟩
        case measure=>simp[intOf];omega
  ·have kD:k=E.length:=by omega
   have HX:Hid (tabE r E=((stK r E k).1,decide ((stK r E k).1.length<=600))):=by simp only[Hid,tabE];rw[kD]at iA ⊢;rw[iA.out];rfl
   have eY:¬(k:Int)<(E.length:Int):=by omega
   obtain⟨⟨T0,b⟩,ei⟩:=qeb (stK r E k)
   rw[ei]at hT f8 HX fg
   simp only at hT f8 HX fg
   subst f8
   have hm:m6=T0.length:=by
    obtain⟨a,cap,h,_⟩:=hT.seq
    injection h
   subst hm
   have Dd:=bx.r0
   have IJ:=bx.f0
   have vf:∀g,(Value.slice a6 T0.length c6).ownBlock=some g->w.heap.size+1+1+1+1<=g:=fun g hg=>(World.ownsRow.lt hT g hg).1
   have t0:(wr.setCell ⟨w.heap.size+1+1,0,none⟩ (.slice a6 T0.length c6)).cell? ⟨w.heap.size+1+1,0,none⟩=some (.slice a6 T0.length c6):=wcs _ _ _ (u:=nS) Dd
   have eB:Zf (wr.drew.setCell ⟨w.heap.size+1+1,0,none⟩ (.slice a6 T0.length c6)) w.heap.size (.slice a6 T0.length c6) T0:=jcj (w1:=wr.drew) (jaj (w:=wr.drew) hT (by omega)) (fun h=>by have:=vf _ h;omega)
   have fS:Bw w (wr.drew.setCell ⟨w.heap.size+1+1,0,none⟩ (.slice a6 T0.length c6)):=(hB.trans ((jab wr).mono hB.size)).setCell (show w.heap.size<=w.heap.size+1+1 by omega) _
   by_cases h6:T0.length<=600
   ·have AM:(T0.length:Int)<=600:=by omega
    rw[dte h6]at HX
    have HQ:Hid (TabSP r E w (.returned (.tuple #[.agg #[.slice a6 T0.length c6],.bool true])) (wr.drew.setCell ⟨w.heap.size+1+1,0,none⟩ (.slice a6 T0.length c6))):=⟨_,_,T0,rfl,eB,by rw[HX.out],fun _=>by rw[HX.out],fS⟩
    clear kD ei hT eB fS HX
    go_wp2_with fail
    go_region
    all_goals
     go_wp2
     exact bpr (v:=.tuple #[.agg #[.slice a6 T0.length c6],.bool true]) (by simp[results,Tryz.results93,go_sem,t0]) rfl HQ.out
   ·have AM:¬(T0.length:Int)<=600:=by omega
    rw[dfe h6]at HX
    have HQ:Hid (TabSP r E w (.returned (.tuple #[.agg #[.slice a6 T0.length c6],.bool false])) (wr.drew.setCell ⟨w.heap.size+1+1,0,none⟩ (.slice a6 T0.length c6))):=⟨_,_,T0,rfl,eB,by rw[HX.out],(fun h=>by cases h),fS⟩
    clear kD ei hT eB fS HX
    go_wp2_with fail
    go_region
    all_goals
     go_wp2
     exact bpr (v:=.tuple #[.agg #[.slice a6 T0.length c6],.bool false]) (by simp[results,Tryz.results93,go_sem,t0];omega) rfl HQ.out
