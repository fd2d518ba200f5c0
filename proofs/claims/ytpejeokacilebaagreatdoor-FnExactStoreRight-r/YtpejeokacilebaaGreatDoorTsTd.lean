import Derived.Test.YtpejeokacilebaaGreatDoorTabPd
import Derived.Test.YtpejeokacilebaaGreatDoorTs7d
set_option maxHeartbeats 0
set_option linter.unusedSimpArgs false
open Go.RowKit Go.Sort
namespace Go.Proofs.YtpejeokacilebaaGreatDoor
structure TabC:Prop where
 go:∀(r:RelD) (zn:ByteArray) (E:List EraD) (ae:Option Addr) (ce:Nat) (a b0 c:Option Addr) (ca cb cc:Nat) (w:World),Zd w (.agg #[.slice a r.rules.length ca,.slice b0 r.zones.length cb,.slice c r.links.length cc]) r->Za w ae 6 (E.map EraD.cs)->(∀x∈r.rules,jaw x=true)->r.rules.length<=40->(∀x∈r.rules,x.on.size<=1048576)->(∀e∈E,EraR e)->E.length<=8->UntE E->Cl 93 #[.agg #[.slice a r.rules.length ca,.slice b0 r.zones.length cb,.slice c r.links.length cc],.agg #[.string zn,.slice ae E.length ce]] w fun q W'=>TabSP r E w q W'
theorem ju1{r:RelD}{nm:ByteArray}{w w1:World}{a7:Option Addr}{m7 d7 B:Nat}{T:List TurnD}(h:tabD r nm=(0,T))(hO:Zf w1 B (.slice a7 m7 d7) T)(hs:w.heap.size+1<B)(hB:Bw w w1):Jt r nm w (.returned (.agg #[.slice a7 m7 d7,iv 0])) ((w1.setCell ⟨w.heap.size+1,0,none⟩ (.slice a7 m7 d7)).setCell ⟨w.heap.size+1,1,none⟩ (iv 0)):=by
 have dh:∀g,(Value.slice a7 m7 d7).ownBlock=some g->B<=g:=fun g hg=>(World.ownsRow.lt hO g hg).1
 exact⟨.slice a7 m7 d7,by rw[h],by
  rw[h]
  exact jcj (jcj (jaj hO (by omega)) (fun e=>by have:=dh _ e;omega)) (fun e=>by have:=dh _ e;omega),(hB.setCell (show w.heap.size<=w.heap.size+1 by omega) _).setCell (show w.heap.size<=w.heap.size+1 by omega) _⟩
set_option maxRecDepth 20000 in
theorem jsy(ql:TabC)(r:RelD)(v:Value)(nm:ByteArray)(w:World)(hv:Zd w v r)(sm:r.small)(di:∀x∈r.rules,x.on.size<=1048576)(h1:nm.size<=8000)(h2:relB r=true):
  Cl 70 #[v,.string nm] w fun q W'=>Jt r nm w q W':=by
 obtain⟨a,b,c,ca,cb,cc,rfl,hA,lV,nP⟩:=hv.form
 have hv:Zd w (.agg #[.slice a r.rules.length ca,.slice b r.zones.length cb,.slice c r.links.length cc]) r:=⟨⟨a,b,c,ca,cb,cc,rfl,hA,lV,nP⟩⟩
 have ag:=(qal w (.cells #[.slice a r.rules.length ca,.slice b r.zones.length cb,.slice c r.links.length cc] 37)).alloc (by simp) (.cells #[nS,iv 0] 140)
 obtain⟨fp,fq,ft,dJ,dK,fc,fd⟩:(fun z:World=>z.cell? ⟨w.heap.size,0,none⟩=some (.slice a r.rules.length ca)/\z.cell? ⟨w.heap.size,1,none⟩=some (.slice b r.zones.length cb)/\z.cell? ⟨w.heap.size,2,none⟩=some (.slice c r.links.length cc)/\z.cell? ⟨w.heap.size+1,0,none⟩=some nS/\z.cell? ⟨w.heap.size+1,1,none⟩=some (iv 0)/\z.frozen? ⟨w.heap.size+1,0,none⟩=false/\z.frozen? ⟨w.heap.size+1,1,none⟩=false) ((w.alloc (.cells #[.slice a r.rules.length ca,.slice b r.zones.length cb,.slice c r.links.length cc] 37)).alloc (.cells #[nS,iv 0] 140)):=by simp[go_sem]
 have hF:=fun w (h:Zd w (.agg #[.slice a r.rules.length ca,.slice b r.zones.length cb,.slice c r.links.length cc]) r)=>jd2 r _ nm w h sm
 have m2:=sm.2.1
 clear hA nP
 cases hix:jbg r.zones (jba r.links nm)with
 |none=>
  have HT:Hid (tabD r nm=(5,[])):=ju5 h1 h2 (by rw[jc5 hix];rfl)
  rw[hix]at hF
  simp only[ixI]at hF
  clear hix h2 h1 di ql
  unfold Cl;go_in
  go_wp2_with fail
  refine(hF _ (hv.below ag)).mono ?_
  rintro q w1 ⟨rfl,hb1⟩
  have aj:=qtr ag hb1
  have eU:=jaa hb1 fp
  have eV:=jaa hb1 fq
  have eW:=jaa hb1 ft
  have dx:=jaa hb1 dJ
  have dL:=jaa hb1 dK
  have gO:=qfz hb1 dJ fc
  have gP:=qfz hb1 dK fd
  clear hb1 hF
  clear fp fq ft dJ dK fc fd
  obtain⟨t0,t1⟩:=jav (v0:=nS) (v1:=iv 5) dx dL
  have HP:Hid (Jt r nm w (.returned (.agg #[nS,iv 5])) ((w1.setCell ⟨w.heap.size+1,0,none⟩ nS).setCell ⟨w.heap.size+1,1,none⟩ (iv 5))):=jcs HT.out aj (by omega)
  go_wp2
  exact bpr (v:=.agg #[nS,iv 5]) (by simp[results,Tryz.results70,go_sem,t0,t1]) rfl HP.out
 |some i=>
  have i7:=jud hix
  obtain⟨z,hz⟩:=qgg i7
  have CO:jbh z=true:=by
   have h':=h2
   unfold relB at h'
   simp only[bat,List.all_eq_true]at h'
   exact h'.2.2.1 z (lmg hz)
  obtain⟨lZ,ud⟩:=jhv CO
  have F9:=jx3 CO
  have mS:=jcr h2 hix hz
  have az:z.eras≠[]:=fun h=>by rw[h]at lZ;simp at lZ
  have Ed:Hid (∀T,tabE r z.eras=(T,false)->tabD r nm=(7,[])):=fun T h=>ju4 (T:=T) h1 h2 (by rw[mS];exact az) (by rw[mS];exact h)
  have sU:Hid (∀T,tabE r z.eras=(T,true)->tabD r nm=(0,T)):=fun T h=>ju6 (T:=T) h1 h2 (by rw[mS];exact az) (by rw[mS];exact h)
  obtain⟨vd,fG⟩:=jid h2
  have hT:=fun(ae:Option Addr) (ce:Nat) (W:World) (h:Zd W (.agg #[.slice a r.rules.length ca,.slice b r.zones.length cb,.slice c r.links.length cc]) r) (h':Za W ae 6 (z.eras.map EraD.cs))=>ql.go r z.name z.eras ae ce a b c ca cb cc W h h' fG vd di ud lZ.2 F9
  rw[hix]at hF
  simp only[ixI]at hF
  have i1:(0:Int)<=(i:Int):=by omega
  have i2:(i:Int)<(r.zones.length:Int):=by omega
  have i3:¬(i:Int)<0:=by omega
  clear hix h2 h1 di ql vd fG ud F9 az mS CO lZ
  unfold Cl;go_in
  go_wp2_with fail
  refine(hF _ (hv.below ag)).mono ?_
  rintro q w1 ⟨rfl,hb1⟩
  have aj:=qtr ag hb1
  have eU:=jaa hb1 fp
  have eV:=jaa hb1 fq
  have eW:=jaa hb1 ft
  have dx:=jaa hb1 dJ
  have dL:=jaa hb1 dK
  have gO:=qfz hb1 dJ fc
  have gP:=qfz hb1 dK fd
  obtain⟨b',o',rfl,rL,u,rM,hu⟩:=(lV.below aj).at hz
  obtain⟨ae,ce,rfl,hE⟩:=hu
  clear hb1 hF lV hz
  clear fp fq ft dJ dK fc fd
  have bU:w.heap.size+1<w1.heap.size:=qbl dx
  have n1:¬w.heap.size+1=w1.heap.size:=by omega
  have n2:¬w1.heap.size=w.heap.size+1:=by omega
  have bA:Bw w1 w1.drew:=jab w1
  have bB:Bw w1 (w1.alloc (.cells #[nS] 138)).drew:=(qal w1 _).trans ((jab _).mono (by simp))
  have RA:=hv.below (qtr aj bA)
  have RB:=hv.below (qtr aj bB)
  have EA:=hE.below bA
  have EB:=hE.below bB
  have BA:=qtr aj bA
  have BB:=qtr aj bB
  obtain⟨tB,tF⟩:(fun z:World=>z.cell? ⟨w1.heap.size,0,none⟩=some nS/\z.frozen? ⟨w1.heap.size,0,none⟩=false) ((w1.alloc (.cells #[nS] 138)).drew):=by simp[go_sem]
  have hT:=hT ae ce
  have DB:=jaa bA eU
  have DC:=jaa bB eU
  have DF:=jaa bA eV
  have DG:=jaa bB eV
  have DJ:=jaa bA eW
  have DK:=jaa bB eW
  have vZ:=jaa bA dx
  have wd:=jaa bB dx
  have wg:=jaa bA dL
  have wh:=jaa bB dL
  have DP:=jaa bA rL
  have DQ:=jaa bB rL
  have DS:=jaa bA rM
  have DT:=jaa bB rM
  have zZ:=qfz bA dx gO
  have A8:=qfz bB dx gO
  have Ad:=qfz bA dL gP
  have Ae:=qfz bB dL gP
  have:=World.new_ne w1 _ eU
  have:=World.new_ne w1 _ eV
  have:=World.new_ne w1 _ eW
  have:=World.new_ne w1 _ dx
  have:=World.new_ne w1 _ dL
  have:=World.new_ne w1 _ rL
  have:=World.new_ne w1 _ rM
  go_wp2_with fail
  go_region_held3 (fun w'=>w'.cell? ⟨w.heap.size,0,none⟩=some (.slice a r.rules.length ca)/\w'.cell? ⟨w.heap.size,1,none⟩=some (.slice (some ⟨b',o',none⟩) r.zones.length cb)/\w'.cell? ⟨w.heap.size,2,none⟩=some (.slice c r.links.length cc)/\w'.cell? ⟨b',o'+i*2,none⟩=some (.string z.name)/\w'.cell? ⟨b',o'+i*2+1,none⟩=some (.slice ae z.eras.length ce)) (go_keep) (first|(go_at_call 93;refine(hT _ RA EA).mono ?_;rintro q w7 ff;obtain⟨v7,b7,T7,rfl,cj,hbe,eD,ay⟩:=ff.ex;obtain⟨a7,m7,c7,rfl⟩:=jad cj;have dz:=qtr BA ay;have DA:=jaa ay DB;have DE:=jaa ay DF;have DI:=jaa ay DJ;have mV:=jaa ay vZ;have mX:=jaa ay wg;have DO:=jaa ay DP;have DR:=jaa ay DS;have ka:=qfz ay vZ zZ;have kd:=qfz ay wg Ad;have f8:w1.heap.size<=w7.heap.size:=Nat.le_trans bA.size ay.size;have eB:=jaj cj bA.size)|(go_at_call 93;refine(hT _ RB EB).mono ?_;rintro q w7 ff;obtain⟨v7,b7,T7,rfl,cj,hbe,eD,ay⟩:=ff.ex;obtain⟨a7,m7,c7,rfl⟩:=jad cj;have dz:=qtr BB ay;have DA:=jaa ay DC;have DE:=jaa ay DG;have DI:=jaa ay DK;have mV:=jaa ay wd;have mX:=jaa ay wh;have DO:=jaa ay DQ;have DR:=jaa ay DT;have ka:=qfz ay wd A8;have kd:=qfz ay wh Ae;have f8:w1.heap.size<=w7.heap.size:=Nat.le_trans bB.size ay.size;have eB:=jaj cj bB.size;have Mr:=jaa ay tB;have Mt:=qfz ay tB tF))
  ·skip
   have b9:Bw w7 (w7.alloc (.cells #[.slice a7 m7 c7] 138)):=qal w7 _
   have kV:=jaa b9 mV
   have kX:=jaa b9 mX
   have zY:=qfz b9 mV ka
   have Ac:=qfz b9 mX kd
   have B9:Bw w (w7.alloc (.cells #[.slice a7 m7 c7] 138)):=qtr dz b9
   have O9:Zf (w7.alloc (.cells #[.slice a7 m7 c7] 138)) w1.heap.size (.slice a7 m7 c7) T7:=jac eB b9
   have Ms:(w7.alloc (.cells #[.slice a7 m7 c7] 138)).cell? ⟨w7.heap.size,0,none⟩=some (.slice a7 m7 c7):=by simp[go_sem]
   obtain⟨⟨Tq,bq⟩,hq⟩:=qeb (tabE r z.eras)
   rw[hq]at hbe eD
   simp only at hbe eD
   subst hbe
   cases b7 with
   |false=>
    have HT:Hid (tabD r nm=(7,[])):=Ed.out _ hq
    obtain⟨t0,t1⟩:=jav (v0:=nS) (v1:=iv 7) kV kX
    have HP:Hid (Jt r nm w (.returned (.agg #[nS,iv 7])) (((w7.alloc (.cells #[.slice a7 m7 c7] 138)).setCell ⟨w.heap.size+1,0,none⟩ nS).setCell ⟨w.heap.size+1,1,none⟩ (iv 7))):=jcs HT.out B9 (by omega)
    clear cj eB ff hT
    go_wp2
    exact bpr (v:=.agg #[nS,iv 7]) (by simp[results,Tryz.results70,go_sem,t0,t1]) rfl HP.out
   |true=>
    have HT:Hid (tabD r nm=(0,T7)):=sU.out _ (by rw[hq,eD rfl])
    obtain⟨t0,t1⟩:=jav (v0:=.slice a7 m7 c7) (v1:=iv 0) kV kX
    have HP:Hid (Jt r nm w (.returned (.agg #[.slice a7 m7 c7,iv 0])) (((w7.alloc (.cells #[.slice a7 m7 c7] 138)).setCell ⟨w.heap.size+1,0,none⟩ (.slice a7 m7 c7)).setCell ⟨w.heap.size+1,1,none⟩ (iv 0))):=ju1 HT.out O9 bU B9
    clear cj eB ff hT O9
    go_wp2
    exact bpr (v:=.agg #[.slice a7 m7 c7,iv 0]) (by simp[results,Tryz.results70,go_sem,t0,t1]) rfl HP.out
  ·skip
   have kV:(w7.setCell ⟨w1.heap.size,0,none⟩ (.slice a7 m7 c7)).cell? ⟨w.heap.size+1,0,none⟩=some nS:=by rw[wco _ _ _ _ (by simp)];exact mV
   have kX:(w7.setCell ⟨w1.heap.size,0,none⟩ (.slice a7 m7 c7)).cell? ⟨w.heap.size+1,1,none⟩=some (iv 0):=by rw[wco _ _ _ _ (by simp)];exact mX
   have zY:(w7.setCell ⟨w1.heap.size,0,none⟩ (.slice a7 m7 c7)).frozen? ⟨w.heap.size+1,0,none⟩=false:=by rw[World.frozen?_setCell];exact ka
   have Ac:(w7.setCell ⟨w1.heap.size,0,none⟩ (.slice a7 m7 c7)).frozen? ⟨w.heap.size+1,1,none⟩=false:=by rw[World.frozen?_setCell];exact kd
   have f9:=aj.size
   have B9:Bw w (w7.setCell ⟨w1.heap.size,0,none⟩ (.slice a7 m7 c7)):=dz.setCell (show w.heap.size<=w1.heap.size by omega) _
   have O9:Zf (w7.setCell ⟨w1.heap.size,0,none⟩ (.slice a7 m7 c7)) w1.heap.size (.slice a7 m7 c7) T7:=jcj eB (fun e=>by have h1:=(World.ownsRow.lt cj _ e).1;simp at h1;omega)
   have Ms:(w7.setCell ⟨w1.heap.size,0,none⟩ (.slice a7 m7 c7)).cell? ⟨w1.heap.size,0,none⟩=some (.slice a7 m7 c7):=wcs _ _ _ Mr
   obtain⟨⟨Tq,bq⟩,hq⟩:=qeb (tabE r z.eras)
   rw[hq]at hbe eD
   simp only at hbe eD
   subst hbe
   cases b7 with
   |false=>
    have HT:Hid (tabD r nm=(7,[])):=Ed.out _ hq
    obtain⟨t0,t1⟩:=jav (v0:=nS) (v1:=iv 7) kV kX
    have HP:Hid (Jt r nm w (.returned (.agg #[nS,iv 7])) (((w7.setCell ⟨w1.heap.size,0,none⟩ (.slice a7 m7 c7)).setCell ⟨w.heap.size+1,0,none⟩ nS).setCell ⟨w.heap.size+1,1,none⟩ (iv 7))):=jcs HT.out B9 (by omega)
    clear cj eB ff hT
    go_wp2
    exact bpr (v:=.agg #[nS,iv 7]) (by simp[results,Tryz.results70,go_sem,t0,t1]) rfl HP.out
   |true=>
    have HT:Hid (tabD r nm=(0,T7)):=sU.out _ (by rw[hq,eD rfl])
    obtain⟨t0,t1⟩:=jav (v0:=.slice a7 m7 c7) (v1:=iv 0) kV kX
    have HP:Hid (Jt r nm w (.returned (.agg #[.slice a7 m7 c7,iv 0])) (((w7.setCell ⟨w1.heap.size,0,none⟩ (.slice a7 m7 c7)).setCell ⟨w.heap.size+1,0,none⟩ (.slice a7 m7 c7)).setCell ⟨w.heap.size+1,1,none⟩ (iv 0))):=ju1 HT.out O9 bU B9
    clear cj eB ff hT O9
    go_wp2
    exact bpr (v:=.agg #[.slice a7 m7 c7,iv 0]) (by simp[results,Tryz.results70,go_sem,t0,t1]) rfl HP.out
theorem tabC:TabC:=⟨fun r zn E ae ce a b0 c ca cb cc w hv hE hr fk di hP hl hU=>jlq r zn E ae ce a b0 c ca cb cc w hv hE hr fk di hP hl hU⟩
