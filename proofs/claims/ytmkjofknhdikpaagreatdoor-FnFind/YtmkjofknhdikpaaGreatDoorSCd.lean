import Derived.Test.YtmkjofknhdikpaaGreatDoorSAd
import Derived.Test.YtmkjofknhdikpaaGreatDoorSRd
import Derived.Test.YtmkjofknhdikpaaGreatDoorStrQd
set_option maxRecDepth 100000
set_option maxHeartbeats 0
set_option linter.unusedSimpArgs false
open Go.RowKit Go.Sort
namespace Go.Proofs.YtmkjofknhdikpaaGreatDoor
variable{l:List Up}{aN:Int}{b i k n:Nat}{v x:Up}{w w':World}{a:TD}
def Ww(e:TD):Bool:=Uk e.id 1 1000000&&(U6 e.name&&(U6 e.TH&&(Uk e.Ty (-62135596800) 253402300799&&(Uk e.TM 0 2&&Uk e.TL 0 2))))
theorem jlo(e:TD)(w:World)(m1:e.name.size<=maxLen)(m2:e.TH.size<=maxLen):
  C 59 #[e.v] w λr w'=>r=V (Z (Ww e))/\Bw w w':=by
 obtain⟨id,name,TH,Ty,TM,TL⟩:=e;simp only[TD.v,Ww]at *;have hB:=TK w (G #[J id,I name,I TH,J Ty,J TM,J TL] 43);have k0:=λw=>Yz id 1 1000000 w
 have k1:=λw=>jbu name w m1
 have k2:=λw=>jbu TH w m2
 have k3:=λw=>jlv Ty w
 have k4:=λw=>Yz TM 0 2 w
 have k5:=λw=>Yz TL 0 2 w
 delta C;go_in;go_wp2_with fail;refine(k0 _).mono ?_;rintro e wx ⟨rfl,bC⟩;have dl:=bC.symm;clear bC;subst dl;cases h0:Uk id 1 1000000
 case false=>
  have H0:=hid h0;clear h0;go_wp2;go_ret;exact⟨TS (by rw[H0.out];rfl),hB⟩
 have H0:=hid h0;clear h0;go_wp2_with fail;refine(k1 _).mono ?_;rintro e wx ⟨rfl,bC⟩;have dl:=bC.symm;clear bC;subst dl;cases h1:U6 name
 case false=>
  have H1:=hid h1;clear h1;go_wp2;go_ret;exact⟨TS (by rw[H0.out,H1.out];rfl),hB⟩
 have H1:=hid h1;clear h1;go_wp2_with fail;refine(k2 _).mono ?_;rintro e wx ⟨rfl,bC⟩;have dl:=bC.symm;clear bC;subst dl;cases h2:U6 TH
 case false=>
  have H2:=hid h2;clear h2;go_wp2;go_ret;exact⟨TS (by rw[H0.out,H1.out,H2.out];rfl),hB⟩
 have H2:=hid h2;clear h2;go_wp2_with fail;refine(k3 _).mono ?_;rintro e wx ⟨rfl,bC⟩;have dl:=bC.symm;clear bC;subst dl;cases h3:Uk Ty (-62135596800) 253402300799
 case false=>
  have H3:=hid h3;clear h3;go_wp2;go_ret;exact⟨TS (by rw[H0.out,H1.out,H2.out,H3.out];rfl),hB⟩
 have H3:=hid h3;clear h3;go_wp2_with fail;refine(k4 _).mono ?_;rintro e wx ⟨rfl,bC⟩;have dl:=bC.symm;clear bC;subst dl;cases h4:Uk TM 0 2
 case false=>
  have H4:=hid h4;clear h4;go_wp2;go_ret;exact⟨TS (by rw[H0.out,H1.out,H2.out,H3.out,H4.out];rfl),hB⟩
 have H4:=hid h4;clear h4;go_wp2_with fail;refine(k5 _).mono ?_;rintro e wx ⟨rfl,bC⟩;have dl:=bC.symm;clear bC;subst dl;cases h5:Uk TL 0 2
 case false=>
  have H5:=hid h5;clear h5;go_wp2;go_ret;exact⟨TS (by rw[H0.out,H1.out,H2.out,H3.out,H4.out,H5.out];rfl),hB⟩
 have H5:=hid h5;clear h5;go_wp2;go_ret;exact⟨TS (by rw[H0.out,H1.out,H2.out,H3.out,H4.out,H5.out];rfl),hB⟩
theorem jjd(e:TD)(w:World)(m1:e.name.size<=maxLen)(m2:e.TH.size<=maxLen):
  C 77 #[e.v] w λr w'=>r=V (Z (Ww e))/\Bw w w':=by
 obtain⟨id,name,TH,Ty,TM,TL⟩:=e;simp only[TD.v,Ww]at *;have hB:=TK w (G #[J id,I name,I TH,J Ty,J TM,J TL] 43);have k1:=λw=>ja7 name w m1
 have k2:=λw=>ja7 TH w m2
 have k3:=λw=>jg1 Ty w
 have k4:=λw=>jbw TM w
 have k5:=λw=>jbw TL w
 cases h0:Uk id 1 1000000
 case false=>
  have q:¬((1:Int)<=id/\id<=1000000):=of_decide_eq_false h0;clear h0;by_cases q1:(1:Int)<=id
  .have q2:¬id<=1000000:=λh=>q ⟨q1,h⟩
   clear q;delta C;go_in;go_wp2;go_ret;exact⟨rfl,hB⟩
  .clear q
   delta C;go_in;go_wp2;go_ret;exact⟨rfl,hB⟩
 have⟨q1,q2⟩:=WM h0;clear h0;delta C;go_in;go_wp2_with fail;refine(k1 _).mono ?_;rintro e wx ⟨rfl,bC⟩;have dl:=bC.symm;clear bC;subst dl;cases h1:U6 name
 case false=>
  have H1:=hid h1;clear h1;go_wp2;go_ret;exact⟨TS (by rw[H1.out];rfl),hB⟩
 have H1:=hid h1;clear h1;go_wp2_with fail;refine(k2 _).mono ?_;rintro e wx ⟨rfl,bC⟩;have dl:=bC.symm;clear bC;subst dl;cases h2:U6 TH
 case false=>
  have H2:=hid h2;clear h2;go_wp2;go_ret;exact⟨TS (by rw[H1.out,H2.out];rfl),hB⟩
 have H2:=hid h2;clear h2;go_wp2_with fail;refine(k3 _).mono ?_;rintro e wx ⟨rfl,bC⟩;have dl:=bC.symm;clear bC;subst dl;cases h3:Uk Ty (-62135596800) 253402300799
 case false=>
  have H3:=hid h3;clear h3;go_wp2;go_ret;exact⟨TS (by rw[H1.out,H2.out,H3.out];rfl),hB⟩
 have H3:=hid h3;clear h3;go_wp2_with fail;refine(k4 _).mono ?_;rintro e wx ⟨rfl,bC⟩;have dl:=bC.symm;clear bC;subst dl;cases h4:Uk TM 0 2
 case false=>
  have H4:=hid h4;clear h4;go_wp2;go_ret;exact⟨TS (by rw[H1.out,H2.out,H3.out,H4.out];rfl),hB⟩
 have H4:=hid h4;clear h4;go_wp2_with fail;refine(k5 _).mono ?_;rintro e wx ⟨rfl,bC⟩;have dl:=bC.symm;clear bC;subst dl;cases h5:Uk TL 0 2
 case false=>
  have H5:=hid h5;clear h5;go_wp2;go_ret;exact⟨TS (by rw[H1.out,H2.out,H3.out,H4.out,H5.out];rfl),hB⟩
 have H5:=hid h5;clear h5;go_wp2;go_ret;exact⟨TS (by rw[H1.out,H2.out,H3.out,H4.out,H5.out];rfl),hB⟩
def Yf(a b:TD):Bool:=decide (a.id=b.id)&&((a.name.toList==b.name.toList)&&((a.TH.toList==b.TH.toList)&&(decide (a.Ty=b.Ty)&&(decide (a.TM=b.TM)&&decide (a.TL=b.TL)))))
theorem jo3: ∃ a b c d e f g h i j k l m n o p q r, (Tryz.prog.fieldsOf 43).toList = [⟨ "Id", 2, 0, false, a, b, c⟩, ⟨ "Name", 9, 1, false, d, e, f⟩, ⟨ "Zone", 9, 2, false, g, h, i⟩, ⟨ "Wall", 2, 3, false, j, k, l⟩, ⟨ "Gap", 2, 4, false, m, n, o⟩, ⟨ "Fold", 2, 5, false, p, q, r⟩] := ⟨_, _, _, _, _, _, _, _, _, _, _, _, _, _, _, _, _, _, rfl⟩
theorem jsf(a b:TD)(w:World):(Op.equalIn 10000 43 (.agg #[J a.id,I a.name,I a.TH,J a.Ty,J a.TM,J a.TL]) (.agg #[J b.id,I b.name,I b.TH,J b.Ty,J b.TM,J b.TL])).run Tryz.prog w=.ok (Yf a b) w:=by
 have ht:Tryz.prog.underlying 43=some (.struct (Tryz.prog.fieldsOf 43)):=Z4;have hp:Tryz.prog.stoodInHeld 43=false:=Z4;have⟨_,_,_,_,_,_,_,_,_,_,_,_,_,_,_,_,_,_,hf⟩:=jo3;rw[run_equalIn_agg _ 9999 _ _ _ ht hp,hf];obtain⟨a1,a2,a3,a4,a5,a6⟩:=a;obtain⟨b1,b2,b3,b4,b5,b6⟩:=b;simp only[Yf];simp[Op.eqFields,go_sem];by_cases h1:a1=b1
 .by_cases h2:a2.toList=b2.toList
  .by_cases h3:a3.toList=b3.toList
   .by_cases h4:a4=b4
    .by_cases h5:a5=b5
     .by_cases h6:a6=b6
      .simp[h1,h2,h3,h4,h5,h6]
      .simp[h1,h2,h3,h4,h5,h6]
     .simp[h1,h2,h3,h4,h5]
    .simp[h1,h2,h3,h4]
   .simp[h1,h2,h3]
  .simp[h1,h2]
 .simp[h1]
theorem jil(a b:TD)(w:World):(binOp .neq 43 (.agg #[J a.id,I a.name,I a.TH,J a.Ty,J a.TM,J a.TL]) (.agg #[J b.id,I b.name,I b.TH,J b.Ty,J b.TM,J b.TL])).run Tryz.prog w=.ok (Z (!Yf a b)) w:=by
 rw[run_neq_struct,jsf];rfl
theorem jxh(a b:TD)(w:World):(binOp .eql 43 (.agg #[J a.id,I a.name,I a.TH,J a.Ty,J a.TM,J a.TL]) (.agg #[J b.id,I b.name,I b.TH,J b.Ty,J b.TM,J b.TL])).run Tryz.prog w=.ok (Z (Yf a b)) w:=by
 rw[run_eql_struct,jsf];rfl
theorem jji(op:BinOp)(x y:Operand)(v1 v2:Array Value)(w:World):(eqGuard op 43 x y (.agg v1) (.agg v2)).run Tryz.prog w=.ok () w:=run_eqGuard_agg w _ _ _ _ _ _ Z4
def XI(l:List Up)(i:Nat)(v:Up):Bool:=match Wy (l.take i) v.id with
 |some e=>Yf e v.ev
 |none=>false
def jd5(l:List Up):Nat->Int
 |0=>0
 |k+1=>match l[k]? with
  |some v=>v.tx
  |none=>0
def ZC(l:List Up)(aN:Int)(i:Nat)(v:Up):Bool:=decide (jd5 l i<v.tx)&&(decide (v.tx<=aN)&&(Ww v.ev&&(!v.gone || XI l i v)))
def YG(l:List Up)(aN:Int):Nat->Bool
 |0=>true
 |k+1=>YG l aN k&&(match l[k]? with
  |some v=>ZC l aN k v
  |none=>true)
def Yq(l:List Up)(aN:Int):Bool:=decide (l.length<=60)&&YG l aN l.length
theorem j1e(hv:l[k]? =some v)(h:ZC l aN k v=false):∀{n:Nat},k<n->YG l aN n=false:=by
 intro n
 induction n with
 |zero=>intro hn;omega
 |succ n ih=>
  intro hn;rw[YG];by_cases e:k=n
  .subst e;rw[hv];simp[h]
  .rw[ih Q];rfl
theorem jyd(hv:l[k]? =some v)(h:ZC l aN k v=true)(hk:YG l aN k=true):YG l aN (k+1)=true:=by rw[YG,hk,hv];simp[h]
theorem juq(h:¬l.length<=60):Yq l aN=false:=by unfold Yq;rw[dfe h];rfl
theorem j1f(h:l.length<=60):Yq l aN=YG l aN l.length:=by unfold Yq;rw[Uy h];rfl
theorem jty(h:WI (l.take i) v.id=none):XI l i v=false:=by unfold XI Wy;rw[h]
theorem jtz(h:WI (l.take i) v.id=some k)(hx:(l.take i)[k]? =some x)(hg:x.gone=true):XI l i v=false:=by unfold XI Wy;rw[h];simp only;rw[hx];simp[hg]
theorem jz5(h:WI (l.take i) v.id=some k)(hx:(l.take i)[k]? =some x)(hg:x.gone=false):XI l i v=Yf x.ev v.ev:=by unfold XI Wy;rw[h];simp only;rw[hx];simp[hg]
theorem jg7(l:List Up)(aN cur:Int)(r0 r1 r2 r3 r4 r5 va ia:Option Addr)(p0 q0 p1 q1 p2 q2 p3 q3 p4 q4 p5 q5 n cv ni ci:Nat)(w:World)(hA:Za w va 8 (l.map Up.cs))(hok:∀v∈l,v.ok)(hn:l.length=n)(hl:n<=1048576)(FR:n<=cv):
  C 26 #[.agg #[J aN,.slice r0 p0 q0,.slice r1 p1 q1,.slice r2 p2 q2,.slice r3 p3 q3,.slice r4 p4 q4,.slice r5 p5 q5,J cur,.slice va n cv,.slice ia ni ci]] w λe w'=>e=.returned (.bool (Yq l aN))/\Bw w w':=by
 have ag:Bw w (w.alloc (.cells #[J aN,.slice r0 p0 q0,.slice r1 p1 q1,.slice r2 p2 q2,.slice r3 p3 q3,.slice r4 p4 q4,.slice r5 p5 q5,J cur,.slice va n cv,.slice ia ni ci] 31)):=TK _ _;have mH:=λa b w=>jil a b w
 have xZ:=λop x y v1 v2 w=>jji op x y v1 v2 w
 by_cases tP:60<n
 .rw[juq (by omega)]
  have AL:(60:Int)<(n:Int):=(by omega);delta C;go_in;go_wp2;go_ret;exact⟨rfl,ag⟩
 have AL:¬(60:Int)<(n:Int):=(by omega);obtain⟨VB,qn⟩:=TY (Yq l aN);have HV:Hid (VB=YG l aN n):=by simp only[Hid];rw[<- qn,j1f (by omega),hn]
 rw[qn];clear qn;have HN:=hid hn;have HO:=hid hok;obtain⟨s0,s4⟩:(λz:World=>z.cell? (O w.heap.size 0)=some (J aN)/\z.cell? (O w.heap.size 8)=some (.slice va n cv)) (w.alloc (.cells #[J aN,.slice r0 p0 q0,.slice r1 p1 q1,.slice r2 p2 q2,.slice r3 p3 q3,.slice r4 p4 q4,.slice r5 p5 q5,J cur,.slice va n cv,.slice ia ni ci] 31)):=(by simp[go_sem]);have eK:=hA.below ag;clear hn hok hA;delta C;go_in;go_wp2;generalize (w.alloc (.cells #[J aN,.slice r0 p0 q0,.slice r1 p1 q1,.slice r2 p2 q2,.slice r3 p3 q3,.slice r4 p4 q4,.slice r5 p5 q5,J cur,.slice va n cv,.slice ia ni ci] 31))=w0 at *;go_loopw [3,4,5,6] (λt s _ _ wr=>∃i:Nat,i<=n/\s=J i/\t=J (jd5 l i)/\Hid (YG l aN i=true)/\Bw w0 wr) (λ_ s _ _ _=>n-(intOf s).toNat)
 .exact⟨0,(by omega),rfl,rfl,rfl,Ui _ _⟩
 ·
  obtain⟨wa,dS⟩:=UL wr;subst dS;obtain⟨i,hin,rfl,rfl,HK,aK⟩:=hrel;have t0:=Tx aK s0;have t4:=Tx aK s4;have iu:=eK.below aK;have cR:=TJ ag aK;clear s0 s4 eK ag;by_cases hlt:i<n
  .have a1:(i:Int)<(n:Int):=(by omega)
   have a0:(0:Int)<=(i:Int):=(by omega);have a2:(i:Int)<=(cv:Int):=(by omega);obtain⟨v,hv⟩:∃v,l[i]? =some v:=⟨_,Ug (by have:=HN.out;omega)⟩;have ap:(l.map Up.cs)[i]? =some v.cs:=by rw[Uv,hv];rfl
   obtain⟨b,ob,rfl,hc⟩:=iu.at (i:=i) ap;have c0:wa.cell? (O b (ob+i*8))=some (J v.tx):=hc 0 _ rfl;have c1:wa.cell? (O b (ob+i*8+1))=some (.bool v.gone):=hc 1 _ rfl;have c2:wa.cell? (O b (ob+i*8+2))=some (J v.id):=hc 2 _ rfl;have c3:wa.cell? (O b (ob+i*8+3))=some (.string v.name):=hc 3 _ rfl;have c4:wa.cell? (O b (ob+i*8+4))=some (.string v.TH):=hc 4 _ rfl;have c5:wa.cell? (O b (ob+i*8+5))=some (J v.Ty):=hc 5 _ rfl;have c6:wa.cell? (O b (ob+i*8+6))=some (J v.TM):=hc 6 _ rfl;have c7:wa.cell? (O b (ob+i*8+7))=some (J v.TL):=hc 7 _ rfl;clear hc ap;have sM:=HO.out v (UH hv);have gM:Hid (ZC l aN i v=false->VB=false):=λh1=>by rw[HV.out];exact j1e hv h1 (by omega)
   have lR:Hid (ZC l aN i v=true->YG l aN (i+1)=true):=λh=>jyd hv h HK.out
   have oR:Hid (jd5 l (i+1)=v.tx):=by simp only[Hid];rw[jd5,hv]
   have dZ:=λw=>jlo v.ev w sM.1 sM.2
   simp only[TD.v,Up.ev]at dZ;have FA:∀w1,Bw wa w1->Za w1 (some (O b ob)) 8 ((l.take i).map Up.cs):=λw1 hb=>by
    rcases iu.below hb with h0|⟨b',o',fZ,fx⟩
    .have:=HN.out;simp at h0;rw[h0]at this;simp at this;omega
    .refine .inr ⟨b',o',fZ,λx y r u hr hu=>fx x y r u ?_ hu⟩
     rw[List.map_take]at hr;have hx:x<i:=by have:=(Ux hr).1;simp at this;omega
     rw[List.getElem?_take_of_lt hx]at hr;exact hr
   have hL:=λw1 hb=>jgn (l.take i) (some (O b ob)) i cv v.id w1 (FA w1 hb) (by rw[List.length_take,HN.out];omega) (by omega)
   obtain⟨kk,sE⟩:=TY (WI (l.take i) v.id);rw[sE]at hL;have xg:=hid sE;clear sE FA;go_upto_region 8 with fail
   clear c0 c1 c3 c4 c5 c6 c7;have bV:Bw wa (wa.alloc (.cells #[J v.tx,.bool v.gone,J v.id,.string v.name,.string v.TH,J v.Ty,J v.TM,J v.TL] 93)):=TK _ _;obtain⟨y0,y1,y2,y3,y4,y5,y6,y7⟩:(λz:World=>z.cell? (O wa.heap.size 0)=some (J v.tx)/\z.cell? (O wa.heap.size 1)=some (.bool v.gone)/\z.cell? (O wa.heap.size 2)=some (J v.id)/\z.cell? (O wa.heap.size 3)=some (.string v.name)/\z.cell? (O wa.heap.size 4)=some (.string v.TH)/\z.cell? (O wa.heap.size 5)=some (J v.Ty)/\z.cell? (O wa.heap.size 6)=some (J v.TM)/\z.cell? (O wa.heap.size 7)=some (J v.TL)) (wa.alloc (.cells #[J v.tx,.bool v.gone,J v.id,.string v.name,.string v.TH,J v.Ty,J v.TM,J v.TL] 93)):=(by simp[go_sem]);have u0:=Tx bV t0;have u4:=Tx bV t4;have EY:=iu.below bV;have AW:=TJ cR bV;have df:=TJ aK bV;have jB:C 52 #[.slice (some (O b ob)) i cv,J v.id] (wa.alloc (.cells #[J v.tx,.bool v.gone,J v.id,.string v.name,.string v.TH,J v.Ty,J v.TM,J v.TL] 93)).drew _:=hL (wa.alloc (.cells #[J v.tx,.bool v.gone,J v.id,.string v.name,.string v.TH,J v.Ty,J v.TM,J v.TL] 93)).drew (bV.trans ((UF _).mono bV.size));clear t0 t4 iu cR aK hL bV c2;generalize (wa.alloc (.cells #[J v.tx,.bool v.gone,J v.id,.string v.name,.string v.TH,J v.Ty,J v.TM,J v.TL] 93))=wv at *;generalize wa.heap.size=bt at *
   skip
   go_wp2_with fail;refine wp_region_noPanic ?_;refine wp_region_held_drew (S:=λw'=>w'.cell? (O w.heap.size 8)=some (.slice (some (O b ob)) n cv)/\w'.cell? (O bt 2)=some (J v.id)) (by kernel_rfl) ⟨(show wv.drew.cell? (O w.heap.size 8)=_ from u4),(show wv.drew.cell? (O bt 2)=_ from y2)⟩ (λcZ=>?_);have z0:=Tx (UF wv) u0;have z4:=Tx (UF wv) u4;have x0:=Tx (UF wv) y0;have x1:=Tx (UF wv) y1;have x2:=Tx (UF wv) y2;have x3:=Tx (UF wv) y3;have x4:=Tx (UF wv) y4;have x5:=Tx (UF wv) y5;have x6:=Tx (UF wv) y6;have x7:=Tx (UF wv) y7;have iw:=EY.below (UF wv);have dV:=AW.trans ((UF wv).mono AW.size);have gu:=df.trans ((UF wv).mono df.size);clear u0 u4 EY AW df y0 y1 y2 y3 y4 y5 y6 y7;refine wpAnyH_take (i:=0) (v:=?v1) rfl (by kernel_rfl) (by kernel_rfl) (by kernel_rfl) (λ_ _ _ h=>h) (Or.inl ⟨(by kernel_rfl),?y1⟩) cZ ?z1
   case y1=>(intro wq dA;(try dsimp only at dA);go_simp;try with_reducible rfl)
   try simp only[Act.put,qq1,qq2,qq3]
   refine wpAnyH_take (i:=1) (v:=?v2) rfl (by kernel_rfl) (by kernel_rfl) (by kernel_rfl) (λ_ _ _ h=>h) (Or.inl ⟨(by kernel_rfl),?y2⟩) cZ ?z2
   case y2=>(intro wq dA;(try dsimp only at dA);go_simp;try with_reducible rfl)
   try simp only[Act.put,qq1,qq2,qq3]
   refine wpAnyH_take (i:=2) (v:=?v3) rfl (by kernel_rfl) (by kernel_rfl) (by kernel_rfl) (λ_ _ _ h=>h) (Or.inl ⟨(by kernel_rfl),?y3⟩) cZ ?z3
   case y3=>(intro wq dA;(try dsimp only at dA);go_simp;try with_reducible rfl)
   try simp only[Act.put,qq1,qq2,qq3]
   refine wpAnyH_take (i:=3) (v:=?v4) rfl (by kernel_rfl) (by kernel_rfl) (by kernel_rfl) (λ_ _ _ h=>h) (Or.inl ⟨(by kernel_rfl),?y4⟩) cZ ?z4
   case y4=>(intro wq dA;(try dsimp only at dA);go_simp;try with_reducible rfl)
   try simp only[Act.put,qq1,qq2,qq3]
   refine wpAnyH_take (i:=4) (v:=?v5) rfl (by kernel_rfl) (by kernel_rfl) (by kernel_rfl) (λ_ _ _ h=>h) (Or.inl ⟨(by kernel_rfl),?y5⟩) cZ ?z5
   case y5=>(intro wq dA;(try dsimp only at dA);go_simp;try with_reducible rfl)
   try simp only[Act.put,qq1,qq2,qq3]
   refine wpAnyH_take (i:=5) (v:=?v6) rfl (by kernel_rfl) (by kernel_rfl) (by kernel_rfl) (λ_ _ _ h=>h) (Or.inl ⟨(by kernel_rfl),?y6⟩) cZ ?z6
   case y6=>(intro wq dA;(try dsimp only at dA);go_simp;try with_reducible rfl)
   try simp only[Act.put,qq1,qq2,qq3]
   refine wpAnyH_take (i:=6) (v:=?v7) rfl (by kernel_rfl) (by kernel_rfl) (by kernel_rfl) (λ_ _ _ h=>h) (Or.inl ⟨(by kernel_rfl),?y7⟩) cZ ?z7
   case y7=>(intro wq dA;(try dsimp only at dA);go_simp;try with_reducible rfl)
   try simp only[Act.put,qq1,qq2,qq3]
   refine wpAnyH_ready (rs:=[7]) (by kernel_rfl) (by simp) ?_;refine AllReadyH.cons rfl (λK hK=>?_) AllReadyH.nil;go_simp;refine jB.mono ?_;rintro e wx ⟨rfl,bC⟩;have dl:=bC.symm;clear bC;subst dl;go_wp2_with fail;refine hK.out _ _ ⟨z4,x2⟩ (λcZ=>?_);clear hK K jB
   try simp only[Act.put,qq1,qq2,qq3]
   refine wpAnyH_take (i:=8) (v:=?v8) rfl (by kernel_rfl) (by kernel_rfl) (by kernel_rfl) (λ_ _ _ h=>h) (Or.inl ⟨(by kernel_rfl),?y8⟩) cZ ?z8
   case y8=>(intro wq dA;(try dsimp only at dA);go_simp;try with_reducible rfl)
   try simp only[Act.put,qq1,qq2,qq3]
   try simp only[Act.put,List.getElem_toArray,List.getElem_cons_succ,List.getElem_cons_zero,qq1,qq2,qq3]
   refine wpAnyH_done (by kernel_rfl) ?_ _;refine NoPanic.normal ?_;clear cZ;generalize wv.drew=wz at *;generalize kJ:jd5 l i=pt at *;have nI:Hid (ZC l aN i v=(decide (pt<v.tx)&&(decide (v.tx<=aN)&&(Ww v.ev&&(!v.gone || XI l i v))))):=by simp only[Hid];rw[ZC,kJ]
   clear kJ;by_cases e1:v.tx<=pt
   .have OC:¬pt<v.tx:=(by omega)
    have gq:=cell_regrown x0;have ib:=cell_regrown x1;have ic:=cell_regrown x2;have ie:=cell_regrown x3;have ig:=cell_regrown x4;have ii:=cell_regrown x5;have ij:=cell_regrown x6;have ik:=cell_regrown x7;have il:=cell_regrown z0;have im:=cell_regrown z4;have r1:decide (v.tx<=pt)=true:=Uy e1;go_wp2_with fail;refine wp_region_quiet_below (by kernel_rfl) (by kernel_rfl) ?_
    repeat (first|go_big_quiet_step (fail)|quiet_step (fail))
    refine wpQuiet_nil ?_;intro _ hw;obtain⟨⟨dq,aQ⟩,gH⟩:=hw;subst gH;have aY:=below_regrown wz dq aQ;have dU:=TJ dV aY;have lX:=TJ gu aY;clear aY dV gu dZ gq ib ic ie ig ii ij ik il im;generalize grow (redrawn wz dq) aQ=wE at *;obtain rfl:VB=false:=gM.out (by rw[nI.out];rw[dfe (show ¬pt<v.tx by omega)];rfl);go_wp2;go_ret;exact⟨rfl,dU⟩
   by_cases e2:aN<v.tx
   .have OD:¬v.tx<=aN:=(by omega)
    have gq:=cell_regrown x0;have ib:=cell_regrown x1;have ic:=cell_regrown x2;have ie:=cell_regrown x3;have ig:=cell_regrown x4;have ii:=cell_regrown x5;have ij:=cell_regrown x6;have ik:=cell_regrown x7;have il:=cell_regrown z0;have im:=cell_regrown z4;have r1:decide (v.tx<=pt)=false:=dfe e1;have r2:decide (aN<v.tx)=true:=Uy e2;go_wp2_with fail;refine wp_region_quiet_below (by kernel_rfl) (by kernel_rfl) ?_
    repeat (first|go_big_quiet_step (fail)|quiet_step (fail))
    refine wpQuiet_nil ?_;intro _ hw;obtain⟨⟨dq,aQ⟩,gH⟩:=hw;subst gH;have aY:=below_regrown wz dq aQ;have dU:=TJ dV aY;have lX:=TJ gu aY;clear aY dV gu dZ gq ib ic ie ig ii ij ik il im;generalize grow (redrawn wz dq) aQ=wE at *;obtain rfl:VB=false:=gM.out (by rw[nI.out];rw[dfe (show ¬v.tx<=aN by omega)];simp);go_wp2;go_ret;exact⟨rfl,dU⟩
   have IE:pt<v.tx:=(by omega);have IG:v.tx<=aN:=(by omega);have ju:Hid (ZC l aN i v=(Ww v.ev&&(!v.gone || XI l i v))):=by simp only[Hid];rw[nI.out,Uy IE,Uy IG];rfl
   clear nI
   rename Hid (ZC l aN i v=(Ww v.ev&&(!v.gone || XI l i v)))=>nI
   have Ee:Ww ⟨v.id,v.name,v.TH,v.Ty,v.TM,v.TL⟩=Ww v.ev:=rfl;rw[Ee]at dZ;clear Ee;cases e3:Ww v.ev
   case false=>
    rw[e3]at dZ;have gq:=cell_regrown x0;have ib:=cell_regrown x1;have ic:=cell_regrown x2;have ie:=cell_regrown x3;have ig:=cell_regrown x4;have ii:=cell_regrown x5;have ij:=cell_regrown x6;have ik:=cell_regrown x7;have il:=cell_regrown z0;have im:=cell_regrown z4;have r1:decide (v.tx<=pt)=false:=dfe e1;have r2:decide (aN<v.tx)=false:=dfe e2;have cE:∀dd os,C _ _ (grow (redrawn wz dd) os) λe w2=>e=.returned (.bool false)/\∃p:Regrown,w2=grow (redrawn wz p.d) p.os:=λdd os=>Calls.regrown_of (dZ _)
    go_wp2_with fail;refine wp_region_quiet_below (by kernel_rfl) (by kernel_rfl) ?_
    repeat (first|go_big_quiet_step ((go_at_call 59;exact cE _ _))|quiet_step ((go_at_call 59;exact cE _ _)))
    refine wpQuiet_nil ?_;intro _ hw;obtain⟨⟨dq,aQ⟩,gH⟩:=hw;subst gH;have aY:=below_regrown wz dq aQ;have dU:=TJ dV aY;have lX:=TJ gu aY;clear aY dV gu dZ gq ib ic ie ig ii ij ik il im;generalize grow (redrawn wz dq) aQ=wE at *;obtain rfl:VB=false:=gM.out (by rw[nI.out];rw[e3];rfl);go_wp2;go_ret;exact⟨rfl,dU⟩
   rw[e3]at dZ;have yT:Hid (ZC l aN i v=(!v.gone || XI l i v)):=by simp only[Hid];rw[nI.out,e3];rfl
   clear nI e3;cases e4:v.gone
   case false=>
    have HG:Hid (YG l aN (i+1)=true):=lR.out (by rw[yT.out];rw[e4];rfl);rw[e4]at x1;clear e4;have gq:=cell_regrown x0;have ib:=cell_regrown x1;have ic:=cell_regrown x2;have ie:=cell_regrown x3;have ig:=cell_regrown x4;have ii:=cell_regrown x5;have ij:=cell_regrown x6;have ik:=cell_regrown x7;have il:=cell_regrown z0;have im:=cell_regrown z4;have r1:decide (v.tx<=pt)=false:=dfe e1;have r2:decide (aN<v.tx)=false:=dfe e2;have cE:∀dd os,C _ _ (grow (redrawn wz dd) os) λe w2=>e=.returned (.bool true)/\∃p:Regrown,w2=grow (redrawn wz p.d) p.os:=λdd os=>Calls.regrown_of (dZ _)
    go_wp2_with fail;refine wp_region_quiet_below (by kernel_rfl) (by kernel_rfl) ?_
    repeat (first|go_big_quiet_step ((go_at_call 59;exact cE _ _))|quiet_step ((go_at_call 59;exact cE _ _)))
    refine wpQuiet_nil ?_;intro _ hw;obtain⟨⟨dq,aQ⟩,gH⟩:=hw;subst gH;have aY:=below_regrown wz dq aQ;have dU:=TJ dV aY;have lX:=TJ gu aY;have xE:=gq dq aQ;clear aY dV gu dZ gq ib ic ie ig ii ij ik il im;generalize grow (redrawn wz dq) aQ=wE at *;go_wp2;go_roundw
    .exact⟨i+1,(by omega),(by go_num),by rw[oR.out],HG.out,lX⟩
    .simp[intOf];omega
   have xm:Hid (ZC l aN i v=XI l i v):=by simp only[Hid];rw[yT.out,e4];rfl
   rw[e4]at x1;clear e4 yT;cases kk with
   |none=>
    simp only[vaD];have gq:=cell_regrown x0;have ib:=cell_regrown x1;have ic:=cell_regrown x2;have ie:=cell_regrown x3;have ig:=cell_regrown x4;have ii:=cell_regrown x5;have ij:=cell_regrown x6;have ik:=cell_regrown x7;have il:=cell_regrown z0;have im:=cell_regrown z4;have r1:decide (v.tx<=pt)=false:=dfe e1;have r2:decide (aN<v.tx)=false:=dfe e2;have cE:∀dd os,C _ _ (grow (redrawn wz dd) os) λe w2=>e=.returned (.bool true)/\∃p:Regrown,w2=grow (redrawn wz p.d) p.os:=λdd os=>Calls.regrown_of (dZ _)
    go_wp2_with fail;refine wp_region_quiet_below (by kernel_rfl) (by kernel_rfl) ?_
    repeat (first|go_big_quiet_step ((go_at_call 59;exact cE _ _))|quiet_step ((go_at_call 59;exact cE _ _)))
    refine wpQuiet_nil ?_;intro _ hw;obtain⟨⟨dq,aQ⟩,gH⟩:=hw;subst gH;have aY:=below_regrown wz dq aQ;have dU:=TJ dV aY;have lX:=TJ gu aY;clear aY dV gu dZ gq ib ic ie ig ii ij ik il im;generalize grow (redrawn wz dq) aQ=wE at *;obtain rfl:VB=false:=gM.out (by rw[xm.out];exact jty xg.out);go_wp2;go_ret;exact⟨rfl,dU⟩
   | some k=>
    simp only[vaD];obtain⟨hk1,⟨x,sF,hid⟩,_⟩:=jdc xg.out;rw[List.length_take,HN.out]at hk1;have Kg:k<i:=(by omega);have qD:l[k]? =some x:=by rw[List.getElem?_take_of_lt Kg]at sF;exact sF
    have vN:(l.map Up.cs)[k]? =some x.cs:=by rw[Uv,qD];rfl
    obtain⟨b2,o2,zW,dY⟩:=iw.at (i:=k) vN;injection zW with zW
    injection zW with eab1 eab2
    subst eab1 eab2;have m1:wz.cell? (O b (ob+k*8+1))=some (.bool x.gone):=dY 1 _ rfl;have m2:wz.cell? (O b (ob+k*8+2))=some (J x.id):=dY 2 _ rfl;have m3:wz.cell? (O b (ob+k*8+3))=some (.string x.name):=dY 3 _ rfl;have m4:wz.cell? (O b (ob+k*8+4))=some (.string x.TH):=dY 4 _ rfl;have m5:wz.cell? (O b (ob+k*8+5))=some (J x.Ty):=dY 5 _ rfl;have m6:wz.cell? (O b (ob+k*8+6))=some (J x.TM):=dY 6 _ rfl;have m7:wz.cell? (O b (ob+k*8+7))=some (J x.TL):=dY 7 _ rfl;have k0:¬(k:Int)<0:=(by omega);have k1:(0:Int)<=(k:Int):=(by omega);have k2:(k:Int)<(n:Int):=(by omega);clear dY vN qD hk1 hid;cases e5:x.gone
    case true=>
     obtain rfl:VB=false:=gM.out (by rw[xm.out];exact jtz xg.out sF e5);rw[e5]at m1;clear e5 sF;have gq:=cell_regrown x0;have ib:=cell_regrown x1;have ic:=cell_regrown x2;have ie:=cell_regrown x3;have ig:=cell_regrown x4;have ii:=cell_regrown x5;have ij:=cell_regrown x6;have ik:=cell_regrown x7;have il:=cell_regrown z0;have im:=cell_regrown z4;have vT:=cell_regrown m1;have r1:decide (v.tx<=pt)=false:=dfe e1;have r2:decide (aN<v.tx)=false:=dfe e2;have cE:∀dd os,C _ _ (grow (redrawn wz dd) os) λe w2=>e=.returned (.bool true)/\∃p:Regrown,w2=grow (redrawn wz p.d) p.os:=λdd os=>Calls.regrown_of (dZ _)
     have r5:decide ((k:Int)<0)=false:=dfe k0;go_wp2_with fail;refine wp_region_quiet_below (by kernel_rfl) (by kernel_rfl) ?_
     repeat (first|go_big_quiet_step ((go_at_call 59;exact cE _ _))|quiet_step ((go_at_call 59;exact cE _ _)))
     refine wpQuiet_nil ?_;intro _ hw;obtain⟨⟨dq,aQ⟩,gH⟩:=hw;subst gH;have aY:=below_regrown wz dq aQ;have dU:=TJ dV aY;have lX:=TJ gu aY;clear aY dV gu dZ gq ib ic ie ig ii ij ik il im vT;generalize grow (redrawn wz dq) aQ=wE at *;go_wp2;go_ret;exact⟨rfl,dU⟩
    have Eq:Hid (ZC l aN i v=Yf x.ev v.ev):=by simp only[Hid];rw[xm.out];exact jz5 xg.out sF e5
    rw[e5]at m1;clear e5 sF xm;clear mH;cases e6:Yf x.ev v.ev
    case false=>
     obtain rfl:VB=false:=gM.out (by rw[Eq.out];exact e6);have E6:=hid e6;clear e6;have gq:=cell_regrown x0;have ib:=cell_regrown x1;have ic:=cell_regrown x2;have ie:=cell_regrown x3;have ig:=cell_regrown x4;have ii:=cell_regrown x5;have ij:=cell_regrown x6;have ik:=cell_regrown x7;have il:=cell_regrown z0;have im:=cell_regrown z4;have vT:=cell_regrown m1;have CU:=cell_regrown m2;have CV:=cell_regrown m3;have CW:=cell_regrown m4;have CX:=cell_regrown m5;have CY:=cell_regrown m6;have CZ:=cell_regrown m7;have r1:decide (v.tx<=pt)=false:=dfe e1;have r2:decide (aN<v.tx)=false:=dfe e2;have cE:∀dd os,C _ _ (grow (redrawn wz dd) os) λe w2=>e=.returned (.bool true)/\∃p:Regrown,w2=grow (redrawn wz p.d) p.os:=λdd os=>Calls.regrown_of (dZ _)
     have r5:decide ((k:Int)<0)=false:=dfe k0;have vm:=λw=>jil x.ev v.ev w
     simp only[E6.out]at vm;simp only[Up.ev]at vm;go_wp2_with fail;refine wp_region_quiet_below (by kernel_rfl) (by kernel_rfl) ?_
     repeat (first|go_big_quiet_step ((go_at_call 59;exact cE _ _))|quiet_step ((go_at_call 59;exact cE _ _)))
     refine wpQuiet_nil ?_;intro _ hw;obtain⟨⟨dq,aQ⟩,gH⟩:=hw;subst gH;have aY:=below_regrown wz dq aQ;have dU:=TJ dV aY;have lX:=TJ gu aY;clear aY dV gu dZ gq ib ic ie ig ii ij ik il im vT CU CV CW CX CY CZ;generalize grow (redrawn wz dq) aQ=wE at *;go_wp2;go_ret;exact⟨rfl,dU⟩
    have HG:Hid (YG l aN (i+1)=true):=lR.out (by rw[Eq.out];exact e6);have E6:=hid e6;clear e6;have gq:=cell_regrown x0;have ib:=cell_regrown x1;have ic:=cell_regrown x2;have ie:=cell_regrown x3;have ig:=cell_regrown x4;have ii:=cell_regrown x5;have ij:=cell_regrown x6;have ik:=cell_regrown x7;have il:=cell_regrown z0;have im:=cell_regrown z4;have vT:=cell_regrown m1;have CU:=cell_regrown m2;have CV:=cell_regrown m3;have CW:=cell_regrown m4;have CX:=cell_regrown m5;have CY:=cell_regrown m6;have CZ:=cell_regrown m7;have r1:decide (v.tx<=pt)=false:=dfe e1;have r2:decide (aN<v.tx)=false:=dfe e2;have cE:∀dd os,C _ _ (grow (redrawn wz dd) os) λe w2=>e=.returned (.bool true)/\∃p:Regrown,w2=grow (redrawn wz p.d) p.os:=λdd os=>Calls.regrown_of (dZ _)
    have r5:decide ((k:Int)<0)=false:=dfe k0;have vm:=λw=>jil x.ev v.ev w
    simp only[E6.out]at vm;simp only[Up.ev]at vm;go_wp2_with fail;refine wp_region_quiet_below (by kernel_rfl) (by kernel_rfl) ?_
    repeat (first|go_big_quiet_step ((go_at_call 59;exact cE _ _))|quiet_step ((go_at_call 59;exact cE _ _)))
    refine wpQuiet_nil ?_;intro _ hw;obtain⟨⟨dq,aQ⟩,gH⟩:=hw;subst gH;have aY:=below_regrown wz dq aQ;have dU:=TJ dV aY;have lX:=TJ gu aY;have xE:=gq dq aQ;clear aY dV gu dZ gq ib ic ie ig ii ij ik il im vT CU CV CW CX CY CZ;generalize grow (redrawn wz dq) aQ=wE at *;go_wp2;go_roundw
    .exact⟨i+1,(by omega),(by go_num),by rw[oR.out],HG.out,lX⟩
    .simp[intOf];omega
  .have hE:i=n:=(by omega)
   subst hE;have a1:¬(i:Int)<(i:Int):=(by omega);obtain rfl:VB=true:=by rw[HV.out];exact HK.out
   clear iu;go_wp2;go_ret;exact⟨rfl,cR⟩
def YZ(l:List Up)(aN:Int)(i:Nat)(v:Up):Bool:=decide (jd5 l i<v.tx)&&(decide (v.tx<=aN)&&Ww v.ev)
def YF(l:List Up)(aN:Int):Nat->Bool
 |0=>true
 |k+1=>YF l aN k&&(match l[k]? with
  |some v=>YZ l aN k v
  |none=>true)
def Yp(l:List Up)(aN:Int):Bool:=decide (l.length<=60)&&YF l aN l.length
theorem juu(hv:l[k]? =some v)(h:YZ l aN k v=false):∀{n:Nat},k<n->YF l aN n=false:=by
 intro n
 induction n with
 |zero=>intro hn;omega
 |succ n ih=>
  intro hn;rw[YF];by_cases e:k=n
  .subst e;rw[hv];simp[h]
  .rw[ih Q];rfl
theorem j1j(hv:l[k]? =some v)(h:YZ l aN k v=true)(hk:YF l aN k=true):YF l aN (k+1)=true:=by rw[YF,hk,hv];simp[h]
theorem jyi(h:¬l.length<=60):Yp l aN=false:=by unfold Yp;rw[dfe h];rfl
theorem j24(h:l.length<=60):Yp l aN=YF l aN l.length:=by unfold Yp;rw[Uy h];rfl
def XH(l:List Up):Nat->Bool
 |0=>true
 |k+1=>XH l k&&(match l[k]? with
  |some v=> !v.gone || XI l k v
  |none=>true)
theorem juo(l:List Up)(aN:Int):∀k,YG l aN k=(YF l aN k&&XH l k)
 |0=>rfl
 |k+1=>by
  rw[YG,YF,XH,juo l aN k];cases l[k]? with
  |none=>simp
  |some v=>simp only[ZC,YZ];cases YF l aN k<;>cases XH l k<;>cases decide (jd5 l k<v.tx)<;>cases decide (v.tx<=aN)<;>cases Ww v.ev<;>simp
theorem jlh(l:List Up)(aN:Int):Yq l aN=(Yp l aN&&XH l l.length):=by unfold Yq Yp;rw[juo];cases decide (l.length<=60)<;>simp
theorem jfv(l:List Up)(aN cur:Int)(r0 r1 r2 r3 r4 r5 va ia:Option Addr)(p0 q0 p1 q1 p2 q2 p3 q3 p4 q4 p5 q5 n cv ni ci:Nat)(w:World)(hA:Za w va 8 (l.map Up.cs))(hok:∀v∈l,v.ok)(hn:l.length=n)(hl:n<=1048576):
  C 41 #[.agg #[J aN,U r0 p0 q0,U r1 p1 q1,U r2 p2 q2,U r3 p3 q3,U r4 p4 q4,U r5 p5 q5,J cur,U va n cv,U ia ni ci]] w λe w'=>e=V (Z (Yp l aN))/\Bw w w':=by
 have ag:Bw w (w.alloc (G #[J aN,U r0 p0 q0,U r1 p1 q1,U r2 p2 q2,U r3 p3 q3,U r4 p4 q4,U r5 p5 q5,J cur,U va n cv,U ia ni ci] 31)):=TK _ _;by_cases tP:60<n
 .rw[jyi Q]
  have AL:(60:Int)<(n:Int):=Q;delta C;go_in;go_wp2;go_ret;exact⟨rfl,ag⟩
 have AL:¬(60:Int)<(n:Int):=Q;have⟨VB,qn⟩:=TY (Yp l aN);have HV:Hid (VB=YF l aN n):=by simp only[Hid];rw[<- qn,j24 Q,hn]
 rw[qn];clear qn;have HN:=hid hn;have HO:=hid hok;have s0:(w.alloc (G #[J aN,U r0 p0 q0,U r1 p1 q1,U r2 p2 q2,U r3 p3 q3,U r4 p4 q4,U r5 p5 q5,J cur,U va n cv,U ia ni ci] 31)).cell? (O w.heap.size 0)=some (J aN):=Z8;have eK:=hA.below ag;clear hn hok hA;delta C;go_in;go_wp2;generalize (w.alloc (G #[J aN,U r0 p0 q0,U r1 p1 q1,U r2 p2 q2,U r3 p3 q3,U r4 p4 q4,U r5 p5 q5,J cur,U va n cv,U ia ni ci] 31))=w0 at *;go_loopw [3,13] (λt s wr=>∃i:Nat,i<=n/\s=J i/\t=J (jd5 l i)/\Hid (YF l aN i=true)/\Bw w0 wr) (λ_ s _=>n-(intOf s).toNat)
 .exact⟨0,Q,rfl,rfl,rfl,Ui _ _⟩
 ·
  have⟨wa,dS⟩:=UL wr;subst dS;obtain⟨i,hin,rfl,rfl,HK,aK⟩:=hrel;have t0:=Tx aK s0;have iu:=eK.below aK;have cR:=TJ ag aK;clear s0 eK ag;by_cases hlt:i<n
  .have a1:(i:Int)<(n:Int):=Q
   obtain⟨v,hv⟩:∃v,l[i]? =some v:=⟨_,Ug (by have:=HN.out;omega)⟩;have ap:(l.map Up.cs)[i]? =some v.cs:=by rw[Uv,hv];rfl
   obtain⟨b,ob,rfl,hc⟩:=iu.at (i:=i) ap;have c0:wa.cell? (O b (ob+i*8))=some (J v.tx):=hc 0 _ rfl;have c1:wa.cell? (O b (ob+i*8+1))=some (Z v.gone):=hc 1 _ rfl;have c2:wa.cell? (O b (ob+i*8+2))=some (J v.id):=hc 2 _ rfl;have c3:wa.cell? (O b (ob+i*8+3))=some (I v.name):=hc 3 _ rfl;have c4:wa.cell? (O b (ob+i*8+4))=some (I v.TH):=hc 4 _ rfl;have c5:wa.cell? (O b (ob+i*8+5))=some (J v.Ty):=hc 5 _ rfl;have c6:wa.cell? (O b (ob+i*8+6))=some (J v.TM):=hc 6 _ rfl;have c7:wa.cell? (O b (ob+i*8+7))=some (J v.TL):=hc 7 _ rfl;clear hc ap;have sM:=HO.out v (UH hv);have gM:Hid (YZ l aN i v=false->VB=false):=λh1=>by rw[HV.out];exact juu hv h1 Q
   have lR:Hid (YZ l aN i v=true->YF l aN (i+1)=true):=λh=>j1j hv h HK.out
   have oR:Hid (jd5 l (i+1)=v.tx):=by simp only[Hid];rw[jd5,hv]
   have dZ:=λw=>jjd v.ev w sM.1 sM.2
   simp only[TD.v,Up.ev]at dZ;have JW:=TV t0;have az:=Nat.ne_of_lt JW;clear hv sM iu;have⟨pt,kJ⟩:=TY (jd5 l i);have rR:Hid (YZ l aN i v=(decide (pt<v.tx)&&(decide (v.tx<=aN)&&Ww v.ev))):=by simp only[Hid,YZ];rw[kJ]
   rw[kJ];clear kJ;have iy:∀o,Bw w (wa.alloc o):=λo=>cR.alloc cR.size _
   have hsz:=cR.size;by_cases e1:v.tx<=pt
   .obtain rfl:VB=false:=gM.out (by rw[rR.out,dfe Q];rfl)
    go_wp2;go_ret;exact⟨rfl,iy _⟩
   have nH:Hid (YZ l aN i v=(decide (v.tx<=aN)&&Ww v.ev)):=by simp only[Hid];rw[rR.out,Uy Q];rfl
   clear rR;by_cases e2:aN<v.tx
   .obtain rfl:VB=false:=gM.out (by rw[nH.out,dfe Q];rfl)
    go_wp2;go_ret;exact⟨rfl,iy _⟩
   have ju:Hid (YZ l aN i v=Ww v.ev):=by simp only[Hid];rw[nH.out,Uy Q];rfl
   clear nH;simp only[Up.ev]at ju;have⟨eb,Xs⟩:=TY (Ww ⟨v.id,v.name,v.TH,v.Ty,v.TM,v.TL⟩);rw[Xs]at dZ ju;clear Xs;cases eb
   .obtain rfl:VB=false:=gM.out ju.out
    go_wp2_with fail;refine(dZ _).mono ?_;rintro e wx ⟨rfl,bC⟩;go_wp2;go_ret;exact⟨rfl,(iy _).trans (bC.mono Z6)⟩
   have HG:Hid (YF l aN (i+1)=true):=lR.out ju.out;clear ju gM lR;go_wp2_with fail;refine(dZ _).mono ?_;rintro e wx ⟨rfl,bC⟩;have xv:wx.cell? (O wa.heap.size 0)=some (J v.tx):=Tx bC Z8;have fS:=(aK.alloc aK.size _).trans (bC.mono (by simp;have:=aK.size;omega));clear bC;go_wp2;go_roundw
   .exact⟨i+1,Q,Z7,by rw[oR.out],HG,fS⟩
   .simp[intOf];omega
  .obtain rfl:i=n:=Q
   have HF:Hid (VB=true):=by simp only[Hid];rw[HV.out];exact HK.out
   go_wp2;go_ret;exact⟨TS HF.out.symm,cR⟩
section
open Go.RowKit Go.ChangeMaps Go.MapKept
def XU:Value->Option (DataW TD × List MemPlace)
 |.agg ⟨[.int .i64 a,.string b,.string c,.int .i64 d,.int .i64 e,.int .i64 f]⟩=>some (.held ⟨a,b,c,d,e,f⟩,[])
 |_=>none
theorem jo4(e:TD):XU e.v=some (.held e,[]):=by cases e;rfl
theorem jde{v:Value}{z:DataW TD × List MemPlace}(h:XU v=some z):∃e:TD,v=e.v/\z=(.held e,[]):=by
 unfold XU at h;split at h
 .cases h;exact⟨_,rfl,rfl⟩
 .cases h
def vbV(D:DataW TD)(f:Int->Option TD):Prop:=∀id e,(f id=some e->Maps.has D (.int .i64 id)=true/\∀z,D.atKey (.int .i64 id) z=.held e)/\(f id=none->Maps.has D (.int .i64 id)=false)
structure Zm(w:World)(b n:Nat)(f:Int->Option TD):Prop where
 own:∃D,w.ownsMap Tryz.prog 2 XU b n D/\vbV D f
def vcX(f:Int->Option TD)(e:TD)(id:Int):Option TD:=if e.id=id then some e else f id
def vcI(f:Int->Option TD)(i:Int)(id:Int):Option TD:=if i=id then none else f id
theorem Zm.made(w:World):Zm (w.alloc (.map #[] 0)) w.heap.size 0 (λ_=>none):=⟨_,World.ownsMap_made w _ _ _,λ_ _=>⟨λh=>by(cases h),λ_=>rfl⟩⟩
theorem Zm.lt{f:Int->Option TD}(h:Zm w b n f):b<w.heap.size:=by
 have⟨D,h1,_⟩:=h.own;exact h1.lt
theorem Zm.kept{f:Int->Option TD}{row:Option Nat}(h:Zm w b n f)(hg:w.grownBy w' row)(az:some b≠row):Zm w' b n f:=by
 have⟨D,h1,h2⟩:=h.own;exact⟨D,h1.kept hg az,h2⟩
theorem Zm.below{f:Int->Option TD}(h:Zm w b n f)(hb:Bw w w'):Zm w' b n f:=h.kept (row:=none) ⟨hb.os,hb.tape,hb.output,hb.size,λk hk _=>hb.block k hk⟩ M
theorem Zm.alloc{f:Int->Option TD}(h:Zm w b n f)(o:Obj):Zm (w.alloc o) b n f:=by
 have⟨D,h1,h2⟩:=h.own;exact⟨D,h1.alloc o,h2⟩
theorem jwj{id:Int}(h:1<=id/\id<=1000000):(Lit.int .i64 id).wf=true:=by
 have h1:IntKind.min .i64= -9223372036854775808:=rfl;have h2:IntKind.max .i64=9223372036854775807:=rfl
 show(decide (IntKind.min .i64<=id)&&decide (id<=IntKind.max .i64))=true
 rw[h1,h2,Uy Q,Uy Q];rfl
theorem juf(w:World):(zeroValue 43).run Tryz.prog w=.ok (TD.v ⟨0,⟨#[]⟩,⟨#[]⟩,0,0,0⟩) w:=Z4
theorem va4:Tryz.prog.underlying 73=some (.map 2 43):=Z4
theorem Xw:Tryz.prog.underlying 2=some (.int .i64):=Z4
theorem Zm.look{f:Int->Option TD}(h:Zm w b n f){id:Int}(iK:1<=id/\id<=1000000):∃e:TD,(Instr.lookup 73 (.map (some b)) (J id) true).run Tryz.prog w=.ok (.tuple #[e.v,Z (f id).isSome]) w/\∀x,f id=some x->e=x:=by
 have⟨D,h1,h2⟩:=h.own;have⟨v,ps,hr,hv⟩:=h1.look_ok (Maps.int_keyed Xw) va4 (juf w) (jo4 _) (Maps.keyOf_int_mk Xw (jwj iK));obtain⟨e,rfl,he⟩:=jde hv;cases hf:f id with
 |none=>exact⟨e,by rw[hr,(h2 id e).2 hf];rfl,λx hx=>by cases hx⟩
 |some y=>
  have⟨a,c⟩:=(h2 id y).1 hf;refine⟨e,by rw[hr,a];rfl,λx hx=>?_⟩;obtain rfl:=Uw hx;rw[c]at he;have h3:=congrArg Prod.fst he;simp only[DataW.held.injEq]at h3;exact h3.symm
theorem Zm.drop{f:Int->Option TD}(h:Zm w b n f){id:Int}(iK:1<=id/\id<=1000000)(ty:TypeId):∃w',(Builtin.delete_ #[73,2] ty #[.map (some b),J id]).run Tryz.prog w=.ok (.tuple #[]) w'/\Zm w' b n (vcI f id)/\w.mapTurned w' b:=by
 have⟨D,h1,h2⟩:=h.own;have⟨w',hr,ho,ht⟩:=h1.drop (Maps.int_keyed Xw) va4 (Maps.keyOf_int_mk Xw (jwj iK)) ty;refine⟨w',hr,⟨_,ho,λi e=>?_⟩,ht⟩;unfold vcI;by_cases hi:id=i
 .subst hi
  rw[if_pos rfl];exact⟨λh=>by(cases h),λ_=>Maps.has_del_same⟩
 .rw[if_neg hi]
  have az:Lit.int .i64 i≠Lit.int .i64 id:=λh=>hi (by simp only[Lit.int.injEq,true_and]at h;exact h.symm)
  have⟨a,c⟩:=h2 i e;exact⟨λh=>⟨by rw[Maps.has_del_other az];exact(a h).1,λz=>by rw[Maps.atKey_del_other az];exact(a h).2 z⟩,λh=>by rw[Maps.has_del_other az];exact c h⟩
theorem Zm.store{f:Int->Option TD}(h:Zm w b n f)(hn:n<maxLen)(e:TD)(iK:1<=e.id/\e.id<=1000000):∃w',(Instr.mapUpdate 73 (.map (some b)) (J e.id) e.v).run Tryz.prog w=.ok () w'/\Zm w' b (n+1) (vcX f e)/\w.mapTurned w' b:=by
 have⟨D,h1,h2⟩:=h.own;have hM:=h1.isMap;have SZ:WideAt.IsKeyLit (.int .i64 e.id):=trivial;have⟨w',hr,ho,ht⟩:=h1.store (Maps.int_keyed Xw) va4 hn (Maps.keyOf_int_mk Xw (jwj iK)) (jo4 e);refine⟨w',hr,⟨_,ho,λi x=>?_⟩,ht⟩;unfold vcX;by_cases hi:e.id=i
 .subst hi
  rw[if_pos rfl];exact⟨λh=>⟨Maps.has_put_same hM SZ _,λz=>by(cases h;exact Maps.atKey_put_same hM SZ _ _)⟩,λh=>by(cases h)⟩
 .rw[if_neg hi]
  have az:Lit.int .i64 i≠Lit.int .i64 e.id:=λh=>hi (by simp only[Lit.int.injEq,true_and]at h;exact h.symm)
  have⟨a,c⟩:=h2 i x;exact⟨λh=>⟨by rw[Maps.has_put_other az];exact(a h).1,λz=>by rw[Maps.atKey_put_other az];exact(a h).2 z⟩,λh=>by rw[Maps.has_put_other az];exact c h⟩
end
section
open Go.RowKit Go.ChangeMaps Go.MapKept
def jyk(f:Int->Option TD)(v:Up):Bool:= !v.gone || (match f v.id with
 |some x=>Yf x v.ev
 |none=>false)
def jyj(f:Int->Option TD)(v:Up):Int->Option TD:=if v.gone=true then vcI f v.id else vcX f v.ev
theorem jst(l:List Up)(i:Nat){v:Up}(hv:l[i]? =some v):jyj (Wy (l.take i)) v=Wy (l.take (i+1)):=by
 funext id
 rw[List.take_add_one,hv];simp only[Option.toList];rw[jtf];unfold jyj;cases v.gone
 .simp only[Bool.false_eq_true,if_false];rfl
 .simp only[if_true];rfl
theorem jsu(l:List Up)(i:Nat)(v:Up):jyk (Wy (l.take i)) v=(!v.gone || XI l i v):=rfl
theorem jvj{b:TD}(h1:a.id=b.id)(h2:a.name.toList=b.name.toList)(h3:a.TH.toList=b.TH.toList)(h4:a.Ty=b.Ty)(h5:a.TM=b.TM)(h6:a.TL=b.TL):Yf a b=true:=by
 unfold Yf;rw[Uy h1,Uy h4,Uy h5,Uy h6,h2,h3];simp
theorem jys{b:TD}(h:a.id=b.id->a.name.toList=b.name.toList->a.TH.toList=b.TH.toList->a.Ty=b.Ty->a.TM=b.TM->a.TL=b.TL->False):Yf a b=false:=by
 cases hs:Yf a b
 .rfl
 .unfold Yf at hs
  simp only[UM]at hs;have⟨h1,h2,h3,h4,h5,h6⟩:=hs;exact(h (VH h1) (eq_of_beq h2) (eq_of_beq h3) (VH h4) (VH h5) (VH h6)).elim
theorem jou{w1 w2:World}(h1:w.grownBy w1 none)(h2:w1.mapTurned w2 b):w.grownBy w2 (some b):=(h1.but _).andThen h2.grown (λ_ h=>.inr h)
theorem jwt(v:Up)(b n:Nat)(f:Int->Option TD)(w:World)(h:Zm w b n f)(hn:n<maxLen)(iK:1<=v.id/\v.id<=1000000):
  C 78 #[.map (some b),v.v] w λe w'=>e=V (Z (jyk f v))/\Zm w' b (n+1) (jyj f v)/\w.grownBy w' (some b):=by
 obtain⟨tx,gone,id,name,TH,Ty,TM,TL⟩:=v;simp only[Up.v]at *;have mH:=λa b w=>jxh a b w
 have xZ:=λop x y v1 v2 w=>jji op x y v1 v2 w
 have dD:=h.alloc (G #[J tx,Z gone,J id,I name,I TH,J Ty,J TM,J TL] 93);have⟨x,gh,hx⟩:=dD.look iK;have gR:=dD.alloc (G #[J x.id,I x.name,I x.TH,J x.Ty,J x.TM,J x.TL] 43);have cQ:w.grownBy ((w.alloc (G #[J tx,Z gone,J id,I name,I TH,J Ty,J TM,J TL] 93)).alloc (G #[J x.id,I x.name,I x.TH,J x.Ty,J x.TM,J x.TL] 43)) none:=(World.grownBy_alloc w _ none).andThen (World.grownBy_alloc _ _ none) (λ_ h=>.inr h);simp only[TD.v]at gh;have hlt:=h.lt;have HX:=hid hx;clear hx;have HT:Hid (jyk f ⟨tx,true,id,name,TH,Ty,TM,TL⟩=((f id).isSome&&Yf x ⟨id,name,TH,Ty,TM,TL⟩)):=by
  simp only[Hid,jyk];cases hf:f id with
  |none=>rfl
  |some y=>rw[HX.out y hf];rfl
 clear HX;cases gone
 .have⟨w2,jk,gS,eH⟩:=gR.store hn ⟨id,name,TH,Ty,TM,TL⟩ iK
  simp only[TD.v]at jk;have HE:=hid gS;have HG:Hid (w.grownBy w2 (some b)):=jou cQ eH;clear HT gS eH cQ gR dD;delta C;go_in;go_wp2;go_ret;exact⟨rfl,HE.out,HG.out⟩
 .have⟨w2,jk,gS,eH⟩:=gR.drop iK 0
  have HE:Hid (Zm w2 b (n+1) (jyj f ⟨tx,true,id,name,TH,Ty,TM,TL⟩)):=by
   have⟨D,d1,d2⟩:=gS.own;exact⟨D,d1.mono Q,d2⟩
  have HG:Hid (w.grownBy w2 (some b)):=jou cQ eH;have bg:some w.heap.size≠some b:=Z6;have hb1:some (w.heap.size+1)≠some b:=Z6;have v2:w2.cell? (O w.heap.size 2)=some (J id):=eH.grown.cell Z8 bg;have v3:w2.cell? (O w.heap.size 3)=some (I name):=eH.grown.cell Z8 bg;have v4:w2.cell? (O w.heap.size 4)=some (I TH):=eH.grown.cell Z8 bg;have v5:w2.cell? (O w.heap.size 5)=some (J Ty):=eH.grown.cell Z8 bg;have v6:w2.cell? (O w.heap.size 6)=some (J TM):=eH.grown.cell Z8 bg;have v7:w2.cell? (O w.heap.size 7)=some (J TL):=eH.grown.cell Z8 bg;have x0:w2.cell? (O (w.heap.size+1) 0)=some (J x.id):=eH.grown.cell Z8 hb1;have x1:w2.cell? (O (w.heap.size+1) 1)=some (I x.name):=eH.grown.cell Z8 hb1;have x2:w2.cell? (O (w.heap.size+1) 2)=some (I x.TH):=eH.grown.cell Z8 hb1;have x3:w2.cell? (O (w.heap.size+1) 3)=some (J x.Ty):=eH.grown.cell Z8 hb1;have x4:w2.cell? (O (w.heap.size+1) 4)=some (J x.TM):=eH.grown.cell Z8 hb1;have x5:w2.cell? (O (w.heap.size+1) 5)=some (J x.TL):=eH.grown.cell Z8 hb1;have HR:=hid HT;clear gS eH cQ gR dD HT;cases hfs:(f id).isSome
  .rw[hfs]at HR gh
   clear hfs;delta C;go_in;go_wp2;go_ret;exact⟨TS (by rw[HR.out];rfl),HE.out,HG.out⟩
  .rw[hfs]at HR gh
   clear hfs;have hq:=mH x ⟨id,name,TH,Ty,TM,TL⟩ w2;clear mH;dsimp only at hq;delta C;go_in;go_wp2
   all_goals go_ret
   all_goals exact⟨TS (by rw[HR.out,Bool.true_and];first|exact(jvj (by assumption) (by assumption) (by assumption) (by assumption) (by assumption) (by assumption)).symm|exact(jys (λ_ _ _ _ _ _=>by contradiction)).symm),HE.out,HG.out⟩
end
section
open Go.RowKit Go.ChangeMaps Go.MapKept
theorem jz4(hv:l[k]? =some v)(h:(!v.gone || XI l k v)=false):∀{n:Nat},k<n->XH l n=false:=by
 intro n
 induction n with
 |zero=>intro hn;omega
 |succ n ih=>
  intro hn;rw[XH];by_cases e:k=n
  .subst e;rw[hv];simp only;rw[h];simp
  .rw[ih Q];rfl
theorem jw2(hv:l[k]? =some v)(h:(!v.gone || XI l k v)=true)(hk:XH l k=true):XH l (k+1)=true:=by rw[XH,hk,hv];simp only;rw[h];rfl
structure veR(w:World)(l:List Up)(e:Ending)(w':World):Prop where
 TQ:Bw w w'
 end_:(XH l l.length=true/\e=V (.tuple #[.map (some w.heap.size),Z true])/\Zm w' w.heap.size l.length (Wy l))\/(XH l l.length=false/\e=V (.tuple #[.map none,Z false]))
theorem jqn(l:List Up)(a:Option Addr)(n cap:Nat)(w:World)(hA:Za w a 8 (l.map Up.cs))(iK:∀v∈l,1<=v.id/\v.id<=1000000)(hn:l.length=n)(hl:n<=1048576):
  C 42 #[U a n cap] w (veR w l):=by
 have ag:Bw w (w.alloc (.map #[] 0)):=TK _ _;have dD:=Zm.made w;have HN:=hid hn;have HI:=hid iK;clear hn iK;have gi:=@run_makeMap Tryz.prog;delta C;go_in;go_wp2;go_loopw [10] (λs wr=>∃i:Nat,i<=n/\s=J i/\Hid (XH l i=true)/\Hid (Zm wr w.heap.size i (Wy (l.take i)))/\Bw w wr) (λs _=>n-(intOf s).toNat)
 .exact⟨0,Q,rfl,rfl,dD,ag⟩
 ·
  have⟨wa,dS⟩:=UL wr;subst dS;obtain⟨i,hin,rfl,HK,HM,aK⟩:=hrel;have iu:Za wa a 8 (l.map Up.cs):=hA.below aK;clear ag dD;by_cases hlt:i<n
  .have a1:(i:Int)<(n:Int):=Q
   obtain⟨v,hv⟩:∃v,l[i]? =some v:=⟨_,Ug (by have:=HN.out;omega)⟩;have ap:(l.map Up.cs)[i]? =some v.cs:=by rw[Uv,hv];rfl
   obtain⟨b,ob,rfl,hc⟩:=iu.at (i:=i) ap;have c0:wa.cell? (O b (ob+i*8))=some (J v.tx):=hc 0 _ rfl;have c1:wa.cell? (O b (ob+i*8+1))=some (Z v.gone):=hc 1 _ rfl;have c2:wa.cell? (O b (ob+i*8+2))=some (J v.id):=hc 2 _ rfl;have c3:wa.cell? (O b (ob+i*8+3))=some (I v.name):=hc 3 _ rfl;have c4:wa.cell? (O b (ob+i*8+4))=some (I v.TH):=hc 4 _ rfl;have c5:wa.cell? (O b (ob+i*8+5))=some (J v.Ty):=hc 5 _ rfl;have c6:wa.cell? (O b (ob+i*8+6))=some (J v.TM):=hc 6 _ rfl;have c7:wa.cell? (O b (ob+i*8+7))=some (J v.TL):=hc 7 _ rfl;clear hc ap;have Fj:=HM.out.alloc (G #[J v.tx,Z v.gone,J v.id,I v.name,I v.TH,J v.Ty,J v.TM,J v.TL] 93);have hT:=jwt v w.heap.size i _ _ Fj (by unfold maxLen;omega) (HI.out v (UH hv));rw[jst l i hv,jsu]at hT;simp only[Up.v]at hT;have gM:Hid ((!v.gone || XI l i v)=false->XH l l.length=false):=λh=>jz4 hv h (by rw[HN.out];exact hlt)
   have lR:Hid ((!v.gone || XI l i v)=true->XH l (i+1)=true):=λh=>jw2 hv h HK.out
   generalize (!v.gone || XI l i v)=tb at *;clear Fj hv;cases tb
   .have HF:Hid (XH l l.length=false):=gM.out rfl
    clear gM lR;go_wp2_with fail;refine hT.mono ?_;rintro e w2 ⟨rfl,gS,bR⟩;have an:=(aK.alloc aK.size _).grown bR (by have:=aK.size;simp;omega) (λk hk=>by cases hk;exact TP _);clear gS bR;go_wp2;go_ret2;exact⟨an,.inr ⟨HF.out,rfl⟩⟩
   .have HF:Hid (XH l (i+1)=true):=lR.out rfl
    clear gM lR;go_wp2_with fail;refine hT.mono ?_;rintro e w2 ⟨rfl,gS,bR⟩;have an:=(aK.alloc aK.size _).grown bR (by have:=aK.size;simp;omega) (λk hk=>by cases hk;exact TP _);have yJ:=hid gS;clear gS bR;go_wp2;go_roundw
    .exact⟨i+1,Q,Z7,HF,yJ,an⟩
    .simp[intOf];omega
  .obtain rfl:i=n:=Q
   have HF:Hid (XH l l.length=true/\Zm wa w.heap.size l.length (Wy l)):=by
    have h:=HM.out;rw[List.take_of_length_le (by rw[HN.out];exact TP _), <- HN.out]at h;exact⟨by rw[HN.out];exact HK.out,h⟩
   go_wp2;go_ret2;exact⟨aK,.inl ⟨HF.out.1,rfl,HF.out.2⟩⟩
