import Derived.Test.YtmkjofknhdikpaaGreatDoorFBd
import Derived.Test.YtmkjofknhdikpaaGreatDoorFXd
import Derived.Test.YtmkjofknhdikpaaGreatDoorLVd
import Derived.Test.YtmkjofknhdikpaaGreatDoorSNd
set_option maxRecDepth 20000
set_option maxHeartbeats 0
set_option linter.unusedSimpArgs false
open Go.RowKit Go.Sort
namespace Go.Proofs.YtmkjofknhdikpaaGreatDoor
variable{e x:TD}{z:ByteArray}{hi lo:Int}{l:List TD}
theorem vdT(x:TD):¬VV x x:=by unfold VV;omega
theorem vfX{y:TD}(h:VV x y):¬VV y x:=by unfold VV at *;omega
theorem vdU:∀{P OU:List TD},P.Pairwise VV->OU.Pairwise VV->(∀x,x∈P↔x∈OU)->P=OU
 |[],[],_,_,_=>rfl
 |[],b::OU,_,_,h=>by have:=(h b).mpr (List.mem_cons_self ..);simp at this
 |a::P,[],_,_,h=>by have:=(h a).mp (List.mem_cons_self ..);simp at this
 |a::P,b::OU,hP,hQ,h=>by
  have⟨p1,p2⟩:=List.pairwise_cons.mp hP;have⟨q1,q2⟩:=List.pairwise_cons.mp hQ;have e:a=b:=by
   rcases List.mem_cons.mp ((h a).mp (List.mem_cons_self ..))with e|e
   .exact e
   .rcases List.mem_cons.mp ((h b).mpr (List.mem_cons_self ..))with e2|e2
    .exact e2.symm
    .exact absurd (q1 a e) (vfX (p1 b e2))
  subst e;rw[vdU p2 q2 λx=>?_];constructor
  .intro hx
   rcases List.mem_cons.mp ((h x).mp (VW _ hx))with e|e
   .subst e;exact absurd (p1 _ hx) (vdT _)
   .exact e
  .intro hx
   rcases List.mem_cons.mp ((h x).mpr (VW _ hx))with e|e
   .subst e;exact absurd (q1 _ hx) (vdT _)
   .exact e
def vaz(L:List TD)(z:Int):Nat:=(L.takeWhile λx=>decide (x.Ty<=z)).length
def Xq:List TD->TD->List TD
 |[],e=>[e]
 |a::L,e=>if a.Ty<=e.Ty then a::Xq L e else e::a::L
theorem vcP:∀{L:List TD},x∈Xq L e↔x=e\/x∈L
 |[]=>by simp[Xq]
 |a::L=>by
  rw[Xq];split
  .rw[List.mem_cons,vcP,List.mem_cons]
   constructor
   .rintro(h|h|h)
    .exact .inr (.inl h)
    .exact .inl h
    .exact .inr (.inr h)
   .rintro(h|h|h)
    .exact .inr (.inl h)
    .exact .inl h
    .exact .inr (.inr h)
  .rw[List.mem_cons]
theorem vaB(L:List TD)(e:TD):(Xq L e).length=L.length+1:=by
 induction L with
 |nil=>rfl
 |cons a L ih=>rw[Xq];split<;>simp[ih]
theorem vfV(L:List TD)(e:TD):Xq L e=L.take (vaz L e.Ty)++[e]++L.drop (vaz L e.Ty):=by
 induction L with
 |nil=>rfl
 |cons a L ih=>
  unfold vaz at *;rw[Xq];by_cases h:a.Ty<=e.Ty
  .rw[if_pos h,ih];simp[h]
  .rw[if_neg h];simp[h]
theorem vdM:∀{L:List TD},L.Pairwise VV->(∀x∈L,x.id<e.id)->(Xq L e).Pairwise VV
 |[],_,_=>by simp[Xq]
 |a::L,h,hi=>by
  have⟨h1,h2⟩:=List.pairwise_cons.mp h;have ha:=hi a (List.mem_cons_self ..);rw[Xq];split
  .rename_i hw
   refine List.pairwise_cons.mpr ⟨λx hx=>?_,vdM h2 λx hx=>hi x (VW _ hx)⟩;rcases vcP.mp hx with rfl|hx
   .unfold VV;omega
   .exact h1 x hx
  .rename_i hw
   have hk:VV e a:=.inl Q
   exact List.pairwise_cons.mpr ⟨λx hx=>by
    rcases List.mem_cons.mp hx with rfl|hx
    .exact hk
    .exact vfZ hk (h1 x hx),h⟩
theorem vdo{L:List TD}{z:Int}{k:Nat}(h1:∀(j:Nat) x,j<k->L[j]? =some x->x.Ty<=z)(h2:∀x,L[k]? =some x->¬x.Ty<=z)(hk:k<=L.length):vaz L z=k:=by
 induction L generalizing k with
 |nil=>simp at hk;subst hk;rfl
 | cons a L ih=>
  unfold vaz at *;cases k with
  |zero=>have:=h2 a rfl;simp[this]
  |succ k=>
   have h0:=h1 0 a Q rfl;have:=ih (k:=k) (λj x hj hx=>h1 (j+1) x Q (by simpa using hx)) (λx hx=>h2 x (by simpa using hx)) (by simp at hk;omega);simp[h0,this]
def okW(z:ByteArray)(lo hi:Int)(e:TD):Bool:=(e.TH.toList==z.toList)&&(decide (lo<=e.Ty)&&decide (e.Ty<=hi))
def Yw(z:ByteArray)(lo hi:Int)(L:List TD)(e:TD):List TD:=if okW z lo hi e=true then Xq L e else L
def XR(z:ByteArray)(lo hi:Int)(l:List TD):List TD:=l.foldl (Yw z lo hi) []
theorem vfF{i:Nat}(h:l[i]? =some e):XR z lo hi (l.take (i+1))=Yw z lo hi (XR z lo hi (l.take i)) e:=by
 unfold XR;rw[List.take_add_one,h,List.foldl_append];rfl
theorem vcL:∀(l L:List TD),L.Pairwise VV->(∀x∈L,∀y∈l,x.id<y.id)->(l.Pairwise λx y=>x.id<y.id)->(l.foldl (Yw z lo hi) L).Pairwise VV/\∀x,x∈l.foldl (Yw z lo hi) L↔x∈L\/(x∈l/\okW z lo hi x=true)
 |[],L,h,_,_=>⟨h,λx=>M⟩
 | e ::l,L,h,FY,hl=>by
  have⟨l1,l2⟩:=List.pairwise_cons.mp hl;rw[List.foldl_cons];have hA:(Yw z lo hi L e).Pairwise VV:=by
   unfold Yw;split
   .exact vdM h λx hx=>FY x hx e (List.mem_cons_self ..)
   .exact h
  have hM:∀x,x∈Yw z lo hi L e↔x∈L\/(x=e/\okW z lo hi x=true):=λx=>by
   unfold Yw;split
   .rename_i ho
    rw[vcP];constructor
    .rintro(rfl|hx)
     .exact .inr ⟨rfl,ho⟩
     .exact .inl hx
    .rintro(hx|⟨hx,_⟩)
     .exact .inr hx
     .exact .inl hx
   .rename_i ho
    exact⟨.inl,λhx=>hx.elim id λhx=>absurd (hx.1 ▸ hx.2) ho⟩
  have⟨r1,r2⟩:=vcL l _ hA (λx hx y hy=>by
   rcases(hM x).mp hx with hx|⟨rfl,_⟩
   .exact FY x hx y (VW _ hy)
   .exact l1 y hy) l2
  refine⟨r1,λx=>?_⟩;rw[r2,hM,List.mem_cons];constructor
  .rintro((hx|⟨hx,ho⟩)|⟨hx,ho⟩)
   .exact .inl hx
   .exact .inr ⟨.inl hx,ho⟩
   .exact .inr ⟨.inr hx,ho⟩
  .rintro(hx|⟨hx|hx,ho⟩)
   .exact .inl (.inl hx)
   .exact .inl (.inr ⟨hx,ho⟩)
   .exact .inr ⟨hx,ho⟩
theorem vfJ{OU:List TD}(hl:l.Pairwise λx y=>x.id<y.id)(hQ:OU.Pairwise VV)(hm:∀x,x∈OU↔x∈l.filter (okW z lo hi)):OU=XR z lo hi l:=by
 have⟨r1,r2⟩:=vcL (z:=z) (lo:=lo) (hi:=hi) l [] .nil (λx hx=>by simp at hx) hl;refine vdU hQ r1 λx=>?_
 rw[hm,List.mem_filter];rw[show XR z lo hi l=l.foldl (Yw z lo hi) []from rfl]at *;rw[r2];simp
section
open Go.RowKit Go.Lib Go.Sort
def Yx(s:Uo)(z:ByteArray)(lo hi:Int)(tb:Bool):List TD:=if z.size<=8000/\tb=true then XR z lo hi (Uf s.vs)else []
theorem vhh(s:Uo)(v:Value)(z:ByteArray)(lo hi:Int)(tb:Bool)(w:World)(hv:Jd w v s)(hz:z.size<=maxLen)(yN:∀w,Jd w v s->C 9 #[v] w λe w'=>e=V (Z tb)/\Bw w w')(tP:tb=true->s.vs.length<=1000/\(Uf s.vs).length<=1000):
  C 14 #[v,I z,J lo,J hi] w λe w'=>∃x,e=V x/\Jb w' w.heap.size x (Yx s z lo hi tb)/\Bw w w':=by
 have dQ:=hv;have⟨i0,Az,aG,aH,aF⟩:=jtp;obtain⟨a,b,c,d,e,f,va,ia,ca,cb,cc,cd,ce,cf,cv,ci,rfl,_,_,hV,_,_,_⟩:=hv.form;have sP:(z.size:Int)<=9223372036854775807:=by unfold maxLen at hz;omega
 have b0:=TK w (G (stA s a b c d e f va ia ca cb cc cd ce cf cv ci).toArray 31);have b1:=b0.alloc M (G #[] 43);have A0:=(Zh.new w (stA s a b c d e f va ia ca cb cc cd ce cf cv ci) 31).below (TK _ (G #[] 43));have E0:=Yy (w.alloc (G (stA s a b c d e f va ia ca cb cc cd ce cf cv ci).toArray 31)) 43 6;have q1:=yN _ (dQ.below b1);have⟨x0,x1,x2,x3,x4,x5,x6,x7,x8,x9⟩:=A0.UA;have HV:=Xp hV;have hsz:(w.alloc (G (stA s a b c d e f va ia ca cb cc cd ce cf cv ci).toArray 31)).heap.size=w.heap.size+1:=M;rw[hsz]at E0;delta C;go_in;by_cases lz:z.size<=8000
 case neg=>
  have Fa:(8000:Int)<(z.size:Int):=Q;have HF:Hid (Yx s z lo hi tb=[]):=if_neg (λh=>lz h.1);have HE:=Xp (U4 E0 (Nat.le_succ _));have HB:=Xp b1;clear x0 x1 x2 x3 x4 x5 x6 x7 x8 x9 A0 q1 b0 b1 E0;go_wp2;go_ret;exact⟨_,rfl,by rw[HF.out];exact HE.out,HB.out⟩
 have Fa:¬(8000:Int)<(z.size:Int):=Q;go_wp2_with fail;refine q1.mono ?_;rintro e1 w1 ⟨rfl,hb1⟩;have aj:=TJ b1 hb1;have E1:=UG E0 hb1;have A1:=A0.below hb1;clear x0 x1 x2 x3 x4 x5 x6 x7 x8 x9 A0 q1 b0 E0;cases tb
 case false=>
  have HF:Hid (Yx s z lo hi false=[]):=if_neg (λh=>by cases h.2);have HE:=Xp (U4 E1 (Nat.le_succ _));clear E1 A1 b1 hb1;go_wp2;go_ret;exact⟨_,rfl,by rw[HF.out];exact HE.out,aj⟩
 case true=>
 have HF:Hid (Yx s z lo hi true=XR z lo hi (Uf s.vs)):=if_pos ⟨lz,rfl⟩;have⟨Oi,Ou⟩:=tP rfl;have q2:=jd1 s.vs va s.vs.length cv w1 (HV.out.below aj) rfl Oi;have x8:=A1.c 8 (u:=U va s.vs.length cv) rfl;clear b1 hb1 tP;go_wp2_with fail;refine q2.mono ?_;rintro e2 w2 ⟨lv,rfl,aW,ac⟩;have⟨pl,cl,Sq,dR⟩:=aW.seq;subst Sq;have an:=TJ aj ac;have E2:=UG E1 ac;have⟨N,hN⟩:=TY ((Uf s.vs).length);have HN:=Xp hN;rw[hN]at Ou ⊢;generalize Uf s.vs=l at *;clear x8 A1 E1 aj ac q2 aW hN;go_wp2;go_loopw [9,11,12,13,14] (λv s _ _ _ wr=>∃(i g m c:Nat),i<=N/\s=J i/\v=so g m c/\m<=i/\m<=c/\Hid ((XR z lo hi (l.take i)).length=m)/\Jb wr w.heap.size (so g m c) (XR z lo hi (l.take i))/\Hid (Za wr pl 6 (l.map TD.cs))/\Bw w wr) (λ_ s _ _ _ _=>N-(intOf s).toNat)
 .exact⟨0,w.heap.size+1,0,0,Q,rfl,rfl,Q,Q,rfl,U4 E2 (Nat.le_succ _),dR,an⟩
 ·
  clear E2 dR an;have⟨wz,gp⟩:=UL wr;subst gp;obtain⟨i,g,m,c,hin,rfl,rfl,P8,vi,HM,nZ,BF,ag⟩:=hrel;by_cases hlt:i<N
  .have s1:(i:Int)<(N:Int):=Q
   have s0:(0:Int)<=(i:Int):=Q;obtain⟨x,hx⟩:∃x,l[i]? =some x:=⟨_,Ug (by have:=HN.out;omega)⟩;obtain⟨bl,ol,rfl,hc⟩:=BF.out.at (i:=i) (r:=x.cs) (by rw[Uv,hx];rfl);have c0:wz.cell? (O bl (ol+i*6))=some (J x.id):=hc 0 _ rfl;have c1:wz.cell? (O bl (ol+i*6+1))=some (I x.name):=hc 1 _ rfl;have c2:wz.cell? (O bl (ol+i*6+2))=some (I x.TH):=hc 2 _ rfl;have c3:wz.cell? (O bl (ol+i*6+3))=some (J x.Ty):=hc 3 _ rfl;have c4:wz.cell? (O bl (ol+i*6+4))=some (J x.TM):=hc 4 _ rfl;have c5:wz.cell? (O bl (ol+i*6+5))=some (J x.TL):=hc 5 _ rfl;have HK:=Xp (vfF (z:=z) (lo:=lo) (hi:=hi) hx);have bA:=TK wz (G #[J x.id,I x.name,I x.TH,J x.Ty,J x.TM,J x.TL] 43);have Tu:=Zh.new wz [J x.id,I x.name,I x.TH,J x.Ty,J x.TM,J x.TL] 43;have d0:=Tu.c 0 rfl;have d1:=Tu.c 1 rfl;have d2:=Tu.c 2 rfl;have d3:=Tu.c 3 rfl;have d4:=Tu.c 4 rfl;have d5:=Tu.c 5 rfl;have hO:=UG nZ bA;have mr:=Xp (BF.out.below bA);have hB:=TJ ag bA;have hbe:wz.heap.size<(wz.alloc (G #[J x.id,I x.name,I x.TH,J x.Ty,J x.TM,J x.TL] 43)).heap.size:=M;clear hc hx BF nZ ag bA Tu;cases hok:okW z lo hi x
   case false=>
    have ed:Hid (XR z lo hi (l.take (i+1))=XR z lo hi (l.take i)):=by simp only[Hid];rw[HK.out];unfold Yw;rw[hok];rfl
    unfold okW at hok;have nL:=Xp (And.intro HM.out (And.intro hO hB));have Lw:Hid (∃i2:Nat,i2=i+1):=⟨_,rfl⟩;clear HK HM hO hB Lw;cases hk1:(x.TH.toList==z.toList)
    case false=>
     have AA:(x.TH.toList != z.toList)=true:=by rw[bne,hk1];rfl
     go_wp2;go_roundw
     .exact⟨i+1,g,m,c,Q,Z7,rfl,Q,vi,by simp only[Hid];rw[ed.out];exact nL.out.1,by rw[ed.out];exact nL.out.2.1,mr,nL.out.2.2⟩
     .simp[intOf];omega
    case true=>
     have AA:(x.TH.toList != z.toList)=false:=by rw[bne,hk1];rfl
     rw[hk1,Bool.true_and]at hok;by_cases fy:x.Ty<lo
     .clear hok
      go_wp2;go_roundw
      .exact⟨i+1,g,m,c,Q,Z7,rfl,Q,vi,by simp only[Hid];rw[ed.out];exact nL.out.1,by rw[ed.out];exact nL.out.2.1,mr,nL.out.2.2⟩
      .simp[intOf];omega
     .have oC:hi<x.Ty:=by
       rw[Uy (show lo<=x.Ty by omega),Bool.true_and]at hok;have:=of_decide_eq_false hok;omega
      clear hok;go_wp2;go_roundw
      .exact⟨i+1,g,m,c,Q,Z7,rfl,Q,vi,by simp only[Hid];rw[ed.out];exact nL.out.1,by rw[ed.out];exact nL.out.2.1,mr,nL.out.2.2⟩
      .simp[intOf];omega
   case true=>
    have ed:Hid (XR z lo hi (l.take (i+1))=Xq (XR z lo hi (l.take i)) x):=by simp only[Hid];rw[HK.out];unfold Yw;rw[if_pos hok]
    unfold okW at hok;simp only[UM,decide_eq_true_eq]at hok;have⟨hk1,fy,oC⟩:=hok;have AA:(x.TH.toList != z.toList)=false:=by rw[bne,hk1];rfl
    have uY:¬x.Ty<lo:=Q;have RG:¬hi<x.Ty:=Q;generalize XR z lo hi (l.take i)=L at *;have⟨wa,dS⟩:=TY (wz.alloc (G #[J x.id,I x.name,I x.TH,J x.Ty,J x.TM,J x.TL] 43));have⟨be,wi⟩:=TY wz.heap.size;rw[dS]at d0 d1 d2 d3 d4 d5 hO mr hB hbe;rw[wi]at d0 d1 d2 d3 d4 d5 hbe;go_wp2;go_loopw [13] (λs wr=>∃k:Nat,k<=m/\s=J k/\Hid (∀(j:Nat) y,j<k->L[j]? =some y->y.Ty<=x.Ty)/\Bw wa wr) (λs _=>m+1-(intOf s).toNat)
    .exact⟨0,Q,rfl,λj x hj=>Q,Ui _ _⟩
    ·
     clear dS wi;have⟨wb,mQ⟩:=UL wr;subst mQ;obtain⟨k,hk,rfl,HS,ck⟩:=hrel;have fW:Jb wb w.heap.size (so g m c) L:=UG hO ck;have g2:=Tx ck d0;have g3:=Tx ck d1;have g4:=Tx ck d2;have g5:=Tx ck d3;have g6:=Tx ck d4;have g7:=Tx ck d5;have k0:(0:Int)<=(k:Int):=Q;clear hO c0 c1 c2 c3 c4 c5 d0 d1 d2 d3 d4 d5;go_upto_region 11 with fail
     go_cut [67]from 54 to 69 (λPP wx=>∃bb:Bool,PP=Z bb/\Hid (Bw wb wx)/\Hid (if bb=true then k<m/\∀(j:Nat) y,j<k+1->L[j]? =some y->y.Ty<=x.Ty else vaz L x.Ty=k))
     case first=>
      by_cases je:k<m
      .have k1:(k:Int)<(m:Int):=Q
       obtain⟨y,hy⟩:∃y,L[k]? =some y:=⟨_,Ug (by have:=HM.out;omega)⟩;have CM:(L.map TD.cs)[k]? =some y.cs:=by rw[Uv,hy];rfl
       have cx:wb.cell? (O g (k*6+3))=some (J y.Ty):=fW.cell (WY (q:=6) ZK (j:=3) CM rfl);clear CM;have q0:decide ((k:Int)<(m:Int))=true:=Uy k1;by_cases qD:y.Ty<=x.Ty
       .have jM:Hid (∀(j:Nat) y,j<k+1->L[j]? =some y->y.Ty<=x.Ty):=λj u hj hu=>by
         by_cases e1:j=k
         .subst e1;rw[hy]at hu;obtain rfl:=Uw hu;exact qD
         .exact HS.out j u Q hu
        clear hy HS fW g3 g4 g6 g7;have q1:decide (y.Ty<=x.Ty)=true:=Uy qD;go_wp2_with fail;go_quiet (fail);go_wp2;go_meet;exact⟨true,rfl,YJ wb nq,(by simp only[Hid];exact⟨je,jM.out⟩)⟩
       .have HA:Hid (vaz L x.Ty=k):=vdo HS.out (λu hu=>by rw[hy]at hu;obtain rfl:=Uw hu;exact qD) (by have:=HM.out;omega)
        clear hy;have q1:decide (y.Ty<=x.Ty)=false:=dfe qD;go_wp2_with fail;go_quiet (fail);go_wp2;go_meet;exact⟨false,rfl,YJ wb nq,(by simp only[Hid];exact HA.out)⟩
      .have k1:¬(k:Int)<(m:Int):=Q
       have HA:Hid (vaz L x.Ty=k):=vdo HS.out (λu hu=>by have:=(List.getElem?_eq_some_iff.1 hu).1;have:=HM.out;omega) (by have:=HM.out;omega);have q0:decide ((k:Int)<(m:Int))=false:=dfe k1;go_wp2_with fail;go_quiet (fail);go_wp2;go_meet;exact⟨false,rfl,YJ wb nq,(by simp only[Hid];exact HA.out)⟩
     obtain⟨bb,rfl,hW,HB⟩:=hcut;have⟨wq,qQ⟩:=UL wc;subst qQ;have hW:=hW.out;cases bb
     case true=>
      obtain⟨je,jM⟩:k<m/\Hid (∀(j:Nat) y,j<k+1->L[j]? =some y->y.Ty<=x.Ty):=by simpa [Hid]using HB
      clear HB HS fW g2 g3 g4 g5 g6 g7;go_wp2;go_roundw
      .exact⟨k+1,Q,Z7,jM,(TJ ck hW)⟩
      .simp[intOf];omega
     case false=>
      have HA:Hid (vaz L x.Ty=k):=by simpa [Hid]using HB
      clear HB;have bI:Jb wq w.heap.size (so g m c) L:=UG fW hW;have GC:Hid (∀w9,Bw wq w9->Za w9 (some (O bl ol)) 6 (l.map TD.cs)):=λw9 hb=>((mr.out.below ck).below hW).below hb
      have dt:Bw w wq:=(TJ hB ck).trans (hW.mono (TJ hB ck).size);have e2:=Tx hW g2;have e3:=Tx hW g3;have e4:=Tx hW g4;have e5:=Tx hW g5;have e6:=Tx hW g6;have e7:=Tx hW g7;clear fW hB ck g2 g3 g4 g5 g6 g7 HS hW mr;have lk:(L.take k).length=k:=by rw[List.length_take,HM.out];omega
      have ld:(L.drop k).length=m-k:=by rw[List.length_drop,HM.out]
      have iN:(L.map TD.cs).take k=(L.take k).map TD.cs:=List.map_take.symm;have iM:(L.map TD.cs).drop k=(L.drop k).map TD.cs:=List.map_drop.symm;have t1:((L.take k).map TD.cs).flatten.length=k*6:=by rw[ZI ZK,U7,lk]
      have t2:((L.drop k).map TD.cs).flatten.length=(m-k)*6:=by rw[ZI ZK,U7,ld]
      have n1:∀j u,((L.take k).map TD.cs).flatten[j]? =some u->(wq.alloc (G #[] 43)).cell? (((O g 0):Addr).add j)=some u:=λj u hj=>by
       rw[Y4,Nat.zero_add];exact Tx (TK wq _) (bI.cell (jfy (k:=k) (by rw[iN];exact hj)))
      have HD:Hid (∀w2,Bw wq w2->∀j u,((L.drop k).map TD.cs).flatten[j]? =some u->w2.cell? (O g (k*6+j))=some u):=λw2 hb j u hj=>Tx hb (bI.cell (jfx ZK (by rw[U7,HM.out];omega) (by rw[iM];exact hj)))
      have HE:Hid (Xq L x=(L.take k++[x])++L.drop k):=by simp only[Hid];rw[vfV,HA.out]
      have hE:=Yy wq 43 6;have k2:(k:Int)<=(c:Int):=Q;have k3:(k:Int)<=(m:Int):=Q;clear bI iN iM;go_wp2_with (first|(at_builtin;refine wpList_append_own _ rfl _ _ 40 rfl wq.heap.size 43 i0 (.agg #[J 0,ZV,ZV,J 0,J 0,J 0]) 6 64 Tryz.underlying40 Az aG aH aF rfl Z5 _ _ _ rfl hE (O g 0) k c ((L.take k).map TD.cs).flatten rfl t1 n1 jcx ?a3 ?a4 ?a5 ?_)|fail)
      case a3=>unfold maxLen;omega
      case a4=>omega
      case a5=>simp
      intro v1 w1 av aP _;have aj:Bw wq w1:=(TK wq _).grown aP M (λj hj=>(hE.lt j hj).1);obtain⟨a1,m1,x1,rfl⟩:=UY av;have bU:=aj.size;have f2:=Tx aj e2;have f3:=Tx aj e3;have f4:=Tx aj e4;have f5:=Tx aj e5;have f6:=Tx aj e6;have f7:=Tx aj e7;clear aP hE n1 t1 e2 e3 e4 e5 e6 e7;go_wp2_with (first|(at_builtin;refine wpList_append_own _ rfl _ _ 40 rfl wq.heap.size 43 i0 (.agg #[J 0,ZV,ZV,J 0,J 0,J 0]) 6 64 Tryz.underlying40 Az aG aH aF rfl Z5 _ _ _ rfl (UC av _) (O w1.heap.size 0) 1 1 [J x.id,I x.name,I x.TH,J x.Ty,J x.TM,J x.TL] rfl rfl ?b1 ?b2 ?b3 ?b4 ?b5 ?_)|fail)
      case b1=>exact Vy _ [J x.id,I x.name,I x.TH,J x.Ty,J x.TM,J x.TL] _
      case b2=>intro u hu;simp at hu;rcases hu with rfl|rfl|rfl|rfl|rfl|rfl<;>rfl
      case b3=>unfold maxLen;omega
      case b4=>omega
      case b5=>simp;omega
      intro v2 w2 aw aU _;have an:Bw wq w2:=(aj.alloc aj.size _).grown aU Z6 (λj hj=>(av.lt j hj).1);obtain⟨a2,m2,x2,rfl⟩:=UY aw;have dR:=an.size;have n2:=HD.out w2 an;clear aU av aj f2 f3 f4 f5 f6 f7;by_cases iH:c=k
      .have qF:k=m:=Q
       have qv:k=c:=iH.symm;clear iH;subst qv;subst qF;have t2:((L.drop k).map TD.cs).flatten.length=0*6:=by rw[t2];simp
       have n3:∀j u,((L.drop k).map TD.cs).flatten[j]? =some u->w2.cell? (((O g 0):Addr).add j)=some u:=λj u hj=>by have h1:=(List.getElem?_eq_some_iff.1 hj).1;rw[t2]at h1;omega
       go_wp2_with (first|(at_builtin;refine wpList_append_own _ rfl _ _ 40 rfl wq.heap.size 43 i0 (.agg #[J 0,ZV,ZV,J 0,J 0,J 0]) 6 64 Tryz.underlying40 Az aG aH aF rfl Z5 _ _ _ rfl aw (O g 0) 0 0 ((L.drop k).map TD.cs).flatten rfl t2 n3 jcx ?g3 ?g4 ?g5 ?_)|fail)
       case g3=>unfold maxLen;omega
       case g4=>omega
       case g5=>omega
       intro v3 w3 aI aJ _;have ax:Bw wq w3:=an.grown aJ Q (λj hj=>(aw.lt j hj).1);have HO:Hid (Jb w3 w.heap.size v3 (Xq L x)):=by
        simp only[Hid];have h9:w3.ownsRow wq.heap.size 43 6 v3 (Xq L x).length ((Xq L x).map TD.cs).flatten:=by
         rw[vaB,HM.out,HE.out,Vr,Vr,List.flatten_append,List.flatten_append];have hx:k+1+0=k+1:=Q;rw[hx]at aI
         simpa [TD.cs]using aI
        exact U4 h9 dt.size
       have⟨g3,x3,eS,eI⟩:=HO.out.shape (by rw[vaB];omega);rw[vaB,HM.out]at eS eI;subst eS;have cR:Bw w w3:=TJ dt ax;have Ql:=Xp (GC.out _ ax);clear aJ aI aw an ax n2 n3 t2 HD;go_wp2;go_roundw
       .exact⟨i+1,g3,k+1,x3,Q,Z7,rfl,Q,eI,by simp only[Hid];rw[ed.out,vaB,HM.out],by rw[ed.out];exact HO.out,Ql,cR⟩
       .simp[intOf];omega
      .skip
       have n3:∀j u,((L.drop k).map TD.cs).flatten[j]? =some u->w2.cell? (((O g (k*6)):Addr).add j)=some u:=λj u hj=>by rw[Y4];exact n2 j u hj
       go_wp2_with (first|(at_builtin;refine wpList_append_own _ rfl _ _ 40 rfl wq.heap.size 43 i0 (.agg #[J 0,ZV,ZV,J 0,J 0,J 0]) 6 64 Tryz.underlying40 Az aG aH aF rfl Z5 _ _ _ rfl aw (O g (k*6)) (m-k) (c-k) ((L.drop k).map TD.cs).flatten rfl t2 n3 jcx ?g3 ?g4 ?g5 ?_)|fail)
       case g3=>unfold maxLen;omega
       case g4=>omega
       case g5=>omega
       intro v3 w3 aI aJ _;have ax:Bw wq w3:=an.grown aJ Q (λj hj=>(aw.lt j hj).1);have HO:Hid (Jb w3 w.heap.size v3 (Xq L x)):=by
        simp only[Hid];have h9:w3.ownsRow wq.heap.size 43 6 v3 (Xq L x).length ((Xq L x).map TD.cs).flatten:=by
         rw[vaB,HM.out,HE.out,Vr,Vr,List.flatten_append,List.flatten_append];have hx:k+1+(m-k)=m+1:=Q;rw[hx]at aI
         simpa [TD.cs]using aI
        exact U4 h9 dt.size
       have⟨g3,x3,eS,eI⟩:=HO.out.shape (by rw[vaB];omega);rw[vaB,HM.out]at eS eI;subst eS;have cR:Bw w w3:=TJ dt ax;have Ql:=Xp (GC.out _ ax);clear aJ aI aw an ax n2 n3 t2 HD;go_wp2;go_roundw
       .exact⟨i+1,g3,m+1,x3,Q,Z7,rfl,Q,eI,by simp only[Hid];rw[ed.out,vaB,HM.out],by rw[ed.out];exact HO.out,Ql,cR⟩
       .simp[intOf];omega
  .have hE:i=N:=Q
   subst hE;have HE:Hid (XR z lo hi (l.take i)=XR z lo hi l):=by simp only[Hid];rw[List.take_of_length_le (by rw[HN.out];exact TP _)]
   have s1:¬(i:Int)<(i:Int):=Q;go_wp2;go_ret;exact⟨_,rfl,by rw[HF.out, <- HE.out];exact nZ,ag⟩
end
theorem vdI{s:Uo}(h:VI s=true):(Uf s.vs).length<=30:=by
 unfold VI jov jnr at h;simp only[UM,decide_eq_true_eq]at h;exact h.1.2.2.2.1
theorem vfG(bz bl bh base:Nat)(z:ByteArray)(lo hi:Int)(W0:World)(c0:W0.cell? (O bz 0)=some (I z))(c1:W0.cell? (O bl 0)=some (J lo))(c2:W0.cell? (O bh 0)=some (J hi))(h0:bz<base)(h1:bl<base)(h2:bh<base):vcx 33 #[.pointer (some (O bz 0)),.pointer (some (O bl 0)),.pointer (some (O bh 0))] (okW z lo hi) base W0 where
 enter:=λ_ _=>Z4
 call:=λx W hB=>by
  have d0:=(hB.cell (p:=(O bz 0)) h0).trans c0;have d1:=(hB.cell (p:=(O bl 0)) h1).trans c1;have d2:=(hB.cell (p:=(O bh 0)) h2).trans c2;obtain⟨id,name,TH,Ty,TM,TL⟩:=x;simp only[TD.v];have hb:=TK W (G #[J id,I name,I TH,J Ty,J TM,J TL] 43);have g0:=Tx hb d0;have g1:=Tx hb d1;have g2:=Tx hb d2;have Tu:=Zh.new W [J id,I name,I TH,J Ty,J TM,J TL] 43;have e2:=Tu.c 2 rfl;have e3:=Tu.c 3 rfl;have HB:=Xp hb;clear hb d0 d1 d2 c0 c1 c2 hB Tu
  show C 33 #[.agg #[J id,I name,I TH,J Ty,J TM,J TL],.pointer (some (O bz 0)),.pointer (some (O bl 0)),.pointer (some (O bh 0))] W _
  cases hk1:(TH.toList==z.toList)
  .have AA:(TH.toList != z.toList)=true:=by rw[bne,hk1];rfl
   have hv:okW z lo hi ⟨id,name,TH,Ty,TM,TL⟩=false:=by unfold okW;simp only[hk1];rfl
   rw[hv];delta C;go_in;go_wp2;go_ret;exact⟨rfl,HB.out⟩
  .have AA:(TH.toList != z.toList)=false:=by rw[bne,hk1];rfl
   by_cases fy:Ty<lo
   .have hv:okW z lo hi ⟨id,name,TH,Ty,TM,TL⟩=false:=by unfold okW;simp only[hk1,dfe (show ¬lo<=Ty by omega)];rfl
    rw[hv];delta C;go_in;go_wp2;go_ret;exact⟨rfl,HB.out⟩
   .by_cases oC:hi<Ty
    .have hv:okW z lo hi ⟨id,name,TH,Ty,TM,TL⟩=false:=by unfold okW;simp only[hk1,dfe (show ¬Ty<=hi by omega),Bool.and_false]
     rw[hv];delta C;go_in;go_wp2;go_ret;exact⟨rfl,HB.out⟩
    .have hv:okW z lo hi ⟨id,name,TH,Ty,TM,TL⟩=true:=by unfold okW;simp only[hk1,Uy (show lo<=Ty by omega),Uy (show Ty<=hi by omega)];rfl
     rw[hv];delta C;go_in;go_wp2;go_ret;exact⟨rfl,HB.out⟩
theorem vfR(hS:vaI)(s:Uo)(v:Value)(z:ByteArray)(lo hi:Int)(w:World)(hE:Zx w)(hv:Jd w v s)(ok:Zr s)(hz:z.size<=maxLen):
  C 12 #[v,I z,J lo,J hi] w λe w'=>∃x,e=V x/\Jb w' w.heap.size x (Yx s z lo hi (VI s))/\Bw w w':=by
 have dQ:=hv;have sP:(z.size:Int)<=9223372036854775807:=by unfold maxLen at hz;omega
 obtain⟨a,b,c,d,e,f,va,ia,ca,cb,cc,cd,ce,cf,cv,ci,rfl,_,_,_,_,_,_⟩:=hv.form;have bA:=TK w (G (stA s a b c d e f va ia ca cb cc cd ce cf cv ci).toArray 31);have bB:=bA.alloc bA.size (G #[I z] 9);have bC:=bB.alloc bB.size (G #[J lo] 2);have ag:=bC.alloc bC.size (G #[J hi] 2);have A0:=Zh.new w (stA s a b c d e f va ia ca cb cc cd ce cf cv ci) 31;have A0:=((A0.below (TK _ (G #[I z] 9))).below (TK _ (G #[J lo] 2))).below (TK _ (G #[J hi] 2));obtain⟨y1,y2,y3⟩:(λzq:World=>zq.cell? (O (w.heap.size+1) 0)=some (I z)/\zq.cell? (O (w.heap.size+1+1) 0)=some (J lo)/\zq.cell? (O (w.heap.size+1+1+1) 0)=some (J hi)) ((((w.alloc (G (stA s a b c d e f va ia ca cb cc cd ce cf cv ci).toArray 31)).alloc (G #[I z] 9)).alloc (G #[J lo] 2)).alloc (G #[J hi] 2)):=Z8;have mN:((((w.alloc (G (stA s a b c d e f va ia ca cb cc cd ce cf cv ci).toArray 31)).alloc (G #[I z] 9)).alloc (G #[J lo] 2)).alloc (G #[J hi] 2)).heap.size=w.heap.size+1+1+1+1:=M;have hO:=ji8 hS s _ _ (hE.of_below ag) (dQ.below ag) ok;have⟨x0,x1,x2,x3,x4,x5,x6,x7,x8,x9⟩:=A0.UA;have⟨tb,jj⟩:=TY (VI s);have HT:=hid jj;rw[jj];clear hv dQ jj bA bB bC;delta C;go_in;go_wp2_with fail;generalize ((((w.alloc (G (stA s a b c d e f va ia ca cb cc cd ce cf cv ci).toArray 31)).alloc (G #[I z] 9)).alloc (G #[J lo] 2)).alloc (G #[J hi] 2))=w4 at *;refine hO.mono ?_;rintro e1 w1 hP;have⟨x,mD,hx⟩:=hP.ex;rw[HT.out]at mD hx;subst mD;have hb1:=hP.TQ;have aj:=TJ ag hb1;have u1:=Tx hb1 y1;have u2:=Tx hb1 y2;have u3:=Tx hb1 y3;clear hP x0 x1 x2 x3 x4 x5 x6 x7 x8 x9 A0 hO y1 y2 y3;cases tb
 .clear hx
  have HF:Hid (Yx s z lo hi false=[]):=if_neg (λh=>by cases h.2);go_wp2;go_ret;exact⟨_,rfl,by rw[HF.out];exact World.ownsRow_nil _ _ _ _,aj⟩
 by_cases lz:z.size<=8000
 case neg=>
  have Fa:(8000:Int)<(z.size:Int):=Q;have HF:Hid (Yx s z lo hi true=[]):=if_neg (λh=>lz h.1);clear hx;go_wp2;go_ret;exact⟨_,rfl,by rw[HF.out];exact World.ownsRow_nil _ _ _ _,aj⟩
 case pos=>
 have Fa:¬(8000:Int)<(z.size:Int):=Q;have HF:Hid (Yx s z lo hi true=XR z lo hi (Uf s.vs)):=if_pos ⟨lz,rfl⟩;have lm:=vdI HT.out;have HU:=Xp (jhr (l:=s.vs) s.vs.length);obtain⟨bb,lb,n,_,_,rfl,hl,hM,_⟩:=hx rfl;have hC:=vfS lb n (Wy s.vs) (Uf s.vs) w1 hM (jga s.vs) (jhr s.vs.length) Q;clear hx;go_wp2_with fail;refine hC.mono ?_;rintro e2 w2 ⟨v2,rfl,aW,ac⟩;obtain⟨p,m,c2,rfl⟩:=UY aW;have an:=TJ aj ac;have s1:=hb1.size;have Ie:=vfp (Uf s.vs) w1.heap.size _ w2 aW (vfG (w.heap.size+1) (w.heap.size+1+1) (w.heap.size+1+1+1) w1.heap.size z lo hi w2 (Tx ac u1) (Tx ac u2) (Tx ac u3) Q Q Q) ac.size Q;clear hC aW hM hl;go_wp2_with fail;refine Ie.mono ?_;rintro e3 w3 ⟨v3,rfl,dE,ar⟩;have AB:((Uf s.vs).filter (okW z lo hi)).length<=30:=Nat.le_trans (List.length_filter_le _ _) lm;have Fx:=vfs ((Uf s.vs).filter (okW z lo hi)) w1.heap.size v3 w3 dE (Nat.le_trans ac.size ar.size) AB (List.Pairwise.filter _ HU.out);obtain⟨p3,m3,c3,rfl⟩:=UY dE;have ax:Bw w w3:=an.trans (ar.mono aj.size);clear Ie dE u1 u2 u3;go_wp2_with fail;refine Fx.mono ?_;rintro e4 w5 ⟨rfl,⟨OU,hQ,hk,hm⟩,aV⟩;obtain rfl:=vfJ (z:=z) (lo:=lo) (hi:=hi) HU.out hk hm;have bG:Bw w w5:=ax.trans (aV.mono aj.size);have HQ:=Xp (U4 hQ aj.size);clear Fx hQ hm hk;go_wp2;go_ret;exact⟨_,rfl,by rw[HF.out];exact HQ.out,bG⟩
theorem vdD{z:ByteArray}{lo hi:Int}:∀(l L:List TD),(l.foldl (Yw z lo hi) L).length<=L.length+l.length
 |[],L=>M
 | e::l,L=>by
  have h:=vdD (z:=z) (lo:=lo) (hi:=hi) l (Yw z lo hi L e);have h2:(Yw z lo hi L e).length<=L.length+1:=by
   unfold Yw;split
   .rw[vaB];exact TP _
   .omega
  rw[List.foldl_cons,List.length_cons];omega
theorem vfI(s:Uo)(z:ByteArray)(lo hi:Int):(Yx s z lo hi (VI s)).length<=s.vs.length:=by
 unfold Yx;split
 .have h:=vdD (z:=z) (lo:=lo) (hi:=hi) (Uf s.vs) []
  have h2:=jwf s.vs s.vs.length;unfold XR;unfold Uf at *;simp at h;omega
 .simp
theorem vfK(s:Uo)(v:Value)(z:ByteArray)(lo hi:Int)(w:World)(hv:Jd w v s)(ok:Zr s)(hz:z.size<=maxLen):
  C 14 #[v,I z,J lo,J hi] w λe w'=>∃x,e=V x/\Jb w' w.heap.size x (Yx s z lo hi (VI s))/\Bw w w':=
 vhh s v z lo hi (VI s) w hv hz (λw h=>by have h2:=jh8 s v w h ok;rw[jkt]at h2;exact h2) (λh=>by
  have h1:=vdI h;have h2:s.vs.length<=60:=by
   unfold VI jov Yp at h;simp only[UM,decide_eq_true_eq]at h;exact h.1.2.1.1
  omega)
