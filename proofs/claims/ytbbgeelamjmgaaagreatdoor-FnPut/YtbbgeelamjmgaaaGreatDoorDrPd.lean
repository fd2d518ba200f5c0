import Derived.Lib.ItoaLen
import Derived.Test.YtbbgeelamjmgaaaGreatDoorSRd
import Derived.Test.YtbbgeelamjmgaaaGreatDoorQAd
set_option maxRecDepth 20000
set_option maxHeartbeats 0
set_option linter.unusedSimpArgs false
open Go.RowKit
namespace Go.Proofs.YtbbgeelamjmgaaaGreatDoor
variable{m n:Nat}{out:List UInt8}{w':World}{p0 p1 p2 p3 p4 p5:Value}
theorem vf1{a b:ByteArray}(h:a=b):V (I a)=V (I b):=by rw[h]
def dd0(m:Nat):List UInt8:=if m=0 then []else Lib.decDigits m
theorem vg6(_h:m≠0):Lib.decDigits m=dd0 (m / 10)++[UInt8.ofNat (48+m%10)]:=by
 unfold dd0;rw[Lib.decDigits];split
 .rw[if_pos Q];rw[Nat.mod_eq_of_lt Q];rfl
 .rw[if_neg Q]
def dgt(c:Int):UInt8:=UInt8.ofNat c.toNat
theorem vg5(h:dd0 m++out=Lib.decDigits n)(hz:m≠0):Lib.decDigits n=dd0 (m / 10)++(dgt (48+(m:Int)%10)::out):=by
 have e:(48+(m:Int)%10).toNat=48+m%10:=Q;have e2:dd0 m=Lib.decDigits m:=if_neg hz;unfold dgt;rw[<- h,e,e2,vg6 hz];simp
theorem vg1(w:World)(c:Int):
  (convert 22 9 (U (some (O w.heap.size 0)) 1 1)).run Tryz.prog (w.alloc (G #[.int .u8 c] 5))=.ok (I (S [dgt c])) (w.alloc (G #[.int .u8 c] 5)):=
 run_convert_bytes_arg _ 22 5 Tryz.underlying22 Tryz.underlying5 w.heap.size 0 1 1 [c] rfl (λi hi=>by
  obtain rfl:i=0:=Q
  simp) 9 Tryz.underlying9
theorem ve2(h:n<1000000):(Lib.decDigits n).length<=20:=by
 rw[Lib.decDigits_length];exact Lib.nDigits_le20 n Q
theorem vhZ(hn:n<1000000)(h:dd0 m++out=Lib.decDigits n):out.length<=20:=by
 have:=ve2 hn;rw[<- h]at this;simp at this;omega
theorem viX(n:Nat)(w:World)(hn:n<1000000):
  C 115 #[J n] w λe w'=>e=V (I (S (Lib.decDigits n)))/\Bw w w':=by
 by_cases h0:n=0
 .subst h0
  unfold C;go_in;go_wp2;go_ret;exact⟨vf1 (by rw[Lib.decDigits_one Q];rfl),ZU _ _⟩
 .have hb:((n:Int)==0)=false:=by simpa using h0
  unfold C;go_in;go_wp2;go_loopw [0,4] (λx t wr=>∃(m:Nat) (out:List UInt8),m<=n/\x=J m/\t=I (S out)/\Hid (dd0 m++out=Lib.decDigits n)/\Bw w wr) (λx _ _=>(intOf x).toNat)
  .exact⟨n,[],Q,rfl,rfl,by unfold dd0;rw[if_neg h0];simp[Hid],ZU _ _⟩
  ·
   obtain⟨m,out,hm,rfl,rfl,HD,hB⟩:=hrel;by_cases hz:m=0
   .subst hz
    go_wp2;go_ret;exact⟨vf1 (by have:=HD.out;simpa [dd0]using this),hB⟩
   .have az:((m:Int) != 0)=true:=by simpa using hz
    have FR:=λw=>vg1 w (48+(m:Int)%10)
    have HS:Hid (Lib.decDigits n=dd0 (m / 10)++(dgt (48+(m:Int)%10)::out)):=vg5 HD.out hz;have RI:=vhZ hn HD.out;clear HD;go_wp2;go_roundw
    .exact⟨m / 10,_,Q,RP,by rw[vgK];rfl,HS.out.symm,hB.alloc hB.size _⟩
    .simp[intOf];omega
theorem World.vbk{w:World}(h:Bw w w')(row:Option Nat):w.grownBy w' row:=⟨h.os,h.tape,h.output,h.size,λb hb _=>h.block b hb⟩
theorem vdt(n:Int)(w:World)(h0:0<=n)(h1:n<1000000):C 115 #[J n] w λe w'=>∃s:ByteArray,e=V (I s)/\s.size<=20/\Bw w w':=by
 obtain⟨m,rfl⟩:=Int.eq_ofNat_of_zero_le h0;refine(viX m w Q).mono ?_;rintro e w' ⟨rfl,hb⟩;exact⟨_,rfl,by rw[jxy];exact ve2 Q,hb⟩
theorem sz5:ByteArray.size ⟨#[82,117,108,101,32]⟩=5:=rfl
theorem sz1:ByteArray.size ⟨#[32]⟩=1:=rfl
theorem sz3:ByteArray.size ⟨#[32,45,32]⟩=3:=rfl
theorem szn:ByteArray.size ⟨#[10]⟩=1:=rfl
theorem sz0:ByteArray.size ⟨#[32,48,32]⟩=3:=rfl
theorem vgh(p:Nat)(a:Option Addr)(len cap:Nat)(zs:List Int)(w:World)(hS:xu p a len cap zs w):
  C 116 #[.pointer (some (O p 0))] w λe w'=>∃s:ByteArray,e=V (I s)/\s.size<=100/\xu p a len cap zs w'/\w.grownBy w' (some p):=by
 unfold C;go_in;go_wp2_with fail;refine(vaR p a len cap zs w.heap.size 8 100 _ (hS.alloc _) (vaF w [⟨#[50,58,48,48]⟩,⟨#[50,58,48,48,115]⟩,⟨#[49,58,48,48,117]⟩,⟨#[48,58,48,48]⟩,⟨#[50,52,58,48,48]⟩,⟨#[51,58,48,48]⟩,⟨#[48]⟩,⟨#[50,58,51,48,58,51,48]⟩] _ RN) (by have:=hS.lt;omega) Q Q).mono ?_;rintro e w1 ⟨s1,rfl,z1,S1,g1⟩;have G1:=(World.grownBy.refl w (some p)).trans (vaM g1);go_wp2;go_ret;exact⟨_,rfl,z1,S1,G1⟩
theorem vi4(p:Nat)(a:Option Addr)(len cap:Nat)(zs:List Int)(nm:ByteArray)(w:World)(hS:xu p a len cap zs w)(hn:nm.size<=100):
  C 76 #[.pointer (some (O p 0)),I nm] w λe w'=>∃s:ByteArray,e=V (I s)/\s.size<=2000/\xu p a len cap zs w'/\w.grownBy w' (some p):=by
 unfold C;go_in;go_wp2_with fail;refine(vad p a len cap zs 40 _ hS Q Q).mono ?_;rintro e w1 ⟨y1,rfl,l1,u1,S1,g1⟩;have G1:=(World.grownBy.refl w (some p)).trans g1;go_wp2_with fail;refine(vad p a len cap zs 20 _ S1 Q Q).mono ?_;rintro e w2 ⟨y2,rfl,l2,u2,S2,g2⟩;have G2:=G1.trans g2;have q1:IntKind.i64.wrap (1970+y1)=1970+y1:=by rw[IntKind.wrap_i64];omega
 have q2:IntKind.i64.wrap (1970+y1+y2)=1970+y1+y2:=by rw[IntKind.wrap_i64];omega
 go_wp2_with fail;refine(vdt (1970+y1+y2) _ Q Q).mono ?_;rintro e w3 ⟨s3,rfl,z3,b3⟩;have S3:=S2.grown b3;have G3:=G2.trans (World.vbk b3 (some p));go_wp2_with fail;refine(vaR p a len cap zs w3.heap.size 3 100 _ (S3.alloc _) (vaF w3 [⟨#[111,110,108,121]⟩,⟨#[109,97,120]⟩,s3] _ (by intro s hs;simp at hs;rcases hs with rfl|rfl|rfl<;>first|decide|omega)) (by have:=S3.lt;omega) Q Q).mono ?_;rintro e w4 ⟨s4,rfl,z4,S4,g4⟩;have G4:=G3.trans (vaM g4);go_wp2_with fail;refine(vcM p a len cap zs 2 _ S4 Q Q).mono ?_;rintro e w5 ⟨v5,rfl,S5,g5⟩;have G5:=G4.trans g5;cases v5 with
 |true=>
  go_wp2_with fail;refine(vdt (1970+y1) _ Q Q).mono ?_;rintro e w6 ⟨s6,rfl,z6,b6⟩;have S6:=S5.grown b6;have G6:=G5.trans (World.vbk b6 (some p));go_wp2_with fail;refine(vaR p a len cap zs w6.heap.size 3 100 _ (S6.alloc _) (vaF w6 [⟨#[77,97,114]⟩,⟨#[65,112,114]⟩,⟨#[74,97,110]⟩] _ RN) (by have:=S6.lt;omega) Q Q).mono ?_;rintro e w7 ⟨s7,rfl,z7,S7,g7⟩;have G7:=G6.trans (vaM g7);go_wp2_with fail;refine(vaR p a len cap zs w7.heap.size 4 100 _ (S7.alloc _) (vaF w7 [⟨#[108,97,115,116,83,117,110]⟩,⟨#[83,117,110,62,61,56]⟩,⟨#[49]⟩,⟨#[49,53]⟩] _ RN) (by have:=S7.lt;omega) Q Q).mono ?_;rintro e w8 ⟨s8,rfl,z8,S8,g8⟩;have G8:=G7.trans (vaM g8);go_wp2_with fail;refine(vgh p a len cap zs _ S8).mono ?_;rintro e w9 ⟨s9,rfl,z9,S9,g9⟩;have G9:=G8.trans g9;go_wp2_with fail;refine(vaR p a len cap zs w9.heap.size 4 100 _ (S9.alloc _) (vaF w9 [⟨#[49,58,48,48]⟩,⟨#[48,58,51,48]⟩,⟨#[50,58,48,48]⟩,⟨#[45,49,58,48,48]⟩] _ RN) (by have:=S9.lt;omega) Q Q).mono ?_;rintro e jC ⟨mY,rfl,z10,lJ,kL⟩;have ul:=G9.trans (vaM kL);go_wp2_with fail;refine(vaR p a len cap zs jC.heap.size 3 100 _ (lJ.alloc _) (vaF jC [⟨#[83]⟩,⟨#[68]⟩,⟨#[45]⟩] _ RN) (by have:=lJ.lt;omega) Q Q).mono ?_;rintro e Lp ⟨M6,rfl,z11,tS,I0⟩;have Lq:=ul.trans (vaM I0);go_wp2;go_ret;exact⟨_,rfl,by simp only[ByteArray.size_append,sz5,sz1,sz3,szn];omega,tS,Lq⟩
 |false=>
  go_wp2_with fail;refine(vdt (1970+y1) _ Q Q).mono ?_;rintro e w6 ⟨s6,rfl,z6,b6⟩;have S6:=S5.grown b6;have G6:=G5.trans (World.vbk b6 (some p));go_wp2_with fail;refine(vaR p a len cap zs w6.heap.size 3 100 _ (S6.alloc _) (vaF w6 [⟨#[79,99,116]⟩,⟨#[78,111,118]⟩,⟨#[68,101,99]⟩] _ RN) (by have:=S6.lt;omega) Q Q).mono ?_;rintro e w7 ⟨s7,rfl,z7,S7,g7⟩;have G7:=G6.trans (vaM g7);go_wp2_with fail;refine(vaR p a len cap zs w7.heap.size 3 100 _ (S7.alloc _) (vaF w7 [⟨#[108,97,115,116,83,117,110]⟩,⟨#[83,117,110,62,61,49]⟩,⟨#[51,49]⟩] _ RN) (by have:=S7.lt;omega) Q Q).mono ?_;rintro e w8 ⟨s8,rfl,z8,S8,g8⟩;have G8:=G7.trans (vaM g8);go_wp2_with fail;refine(vgh p a len cap zs _ S8).mono ?_;rintro e w9 ⟨s9,rfl,z9,S9,g9⟩;have G9:=G8.trans g9;go_wp2_with fail;refine(vaR p a len cap zs w9.heap.size 3 100 _ (S9.alloc _) (vaF w9 [⟨#[45]⟩,⟨#[83]⟩,⟨#[87]⟩] _ RN) (by have:=S9.lt;omega) Q Q).mono ?_;rintro e jC ⟨mY,rfl,z10,lJ,kL⟩;have ul:=G9.trans (vaM kL);go_wp2;go_ret;exact⟨_,rfl,by simp only[ByteArray.size_append,sz5,sz1,sz3,szn,sz0];omega,lJ,ul⟩
theorem vgi(p:Nat)(a:Option Addr)(len cap:Nat)(zs:List Int)(la:Bool)(y:Int)(w:World)(hS:xu p a len cap zs w)(h0:0<=y)(h1:y<1000000):
  C 77 #[.pointer (some (O p 0)),.bool la,J y] w λe w'=>∃s:ByteArray,e=V (I s)/\s.size<=2000/\xu p a len cap zs w'/\w.grownBy w' (some p):=by
 cases la with
 |true=>
  unfold C;go_in;go_wp2_with fail;refine(vaR p a len cap zs w.heap.size 6 100 _ (hS.alloc _) (vaF w [⟨#[49,58,48,48]⟩,⟨#[45,53,58,48,48]⟩,⟨#[48,58,48,48]⟩,⟨#[45]⟩,⟨#[53,58,51,48]⟩,⟨#[45,48,58,48,49,58,49,53]⟩] _ RN) (by have:=hS.lt;omega) Q Q).mono ?_;rintro e w1 ⟨s1,rfl,z1,S1,g1⟩;have G1:=(World.grownBy.refl w (some p)).trans (vaM g1);go_wp2_with fail;refine(vaR p a len cap zs w1.heap.size 6 100 _ (S1.alloc _) (vaF w1 [⟨#[69,117]⟩,⟨#[69,117]⟩,⟨#[85,83]⟩,⟨#[45]⟩,⟨#[49,58,48,48]⟩,⟨#[45,48,58,51,48]⟩] _ RN) (by have:=S1.lt;omega) Q Q).mono ?_;rintro e w2 ⟨s2,rfl,z2,S2,g2⟩;have G2:=G1.trans (vaM g2);go_wp2_with fail;refine(vaR p a len cap zs w2.heap.size 5 100 _ (S2.alloc _) (vaF w2 [⟨#[67,69,37,115,84]⟩,⟨#[67,69,84,47,67,69,83,84]⟩,⟨#[76,77,84]⟩,⟨#[43,48,53]⟩,⟨#[69,37,115,84]⟩] _ RN) (by have:=S2.lt;omega) Q Q).mono ?_;rintro e w3 ⟨s3,rfl,z3,S3,g3⟩;have G3:=G2.trans (vaM g3);go_wp2;go_ret;exact⟨_,rfl,by simp only[ByteArray.size_append,sz1,szn];omega,S3,G3⟩
 |false=>
  unfold C;go_in;go_wp2_with fail;refine(vaR p a len cap zs w.heap.size 6 100 _ (hS.alloc _) (vaF w [⟨#[49,58,48,48]⟩,⟨#[45,53,58,48,48]⟩,⟨#[48,58,48,48]⟩,⟨#[45]⟩,⟨#[53,58,51,48]⟩,⟨#[45,48,58,48,49,58,49,53]⟩] _ RN) (by have:=hS.lt;omega) Q Q).mono ?_;rintro e w1 ⟨s1,rfl,z1,S1,g1⟩;have G1:=(World.grownBy.refl w (some p)).trans (vaM g1);go_wp2_with fail;refine(vaR p a len cap zs w1.heap.size 6 100 _ (S1.alloc _) (vaF w1 [⟨#[69,117]⟩,⟨#[69,117]⟩,⟨#[85,83]⟩,⟨#[45]⟩,⟨#[49,58,48,48]⟩,⟨#[45,48,58,51,48]⟩] _ RN) (by have:=S1.lt;omega) Q Q).mono ?_;rintro e w2 ⟨s2,rfl,z2,S2,g2⟩;have G2:=G1.trans (vaM g2);go_wp2_with fail;refine(vaR p a len cap zs w2.heap.size 5 100 _ (S2.alloc _) (vaF w2 [⟨#[67,69,37,115,84]⟩,⟨#[67,69,84,47,67,69,83,84]⟩,⟨#[76,77,84]⟩,⟨#[43,48,53]⟩,⟨#[69,37,115,84]⟩] _ RN) (by have:=S2.lt;omega) Q Q).mono ?_;rintro e w3 ⟨s3,rfl,z3,S3,g3⟩;have G3:=G2.trans (vaM g3);go_wp2_with fail;refine(vdt (y) _ Q Q).mono ?_;rintro e w4 ⟨s4,rfl,z4,b4⟩;have S4:=S3.grown b4;have G4:=G3.trans (World.vbk b4 (some p));go_wp2_with fail;refine(vaR p a len cap zs w4.heap.size 6 100 _ (S4.alloc _) (vaF w4 [⟨#[]⟩,⟨#[32,77,97,114]⟩,⟨#[32,65,112,114,32,53]⟩,⟨#[32,79,99,116,32,108,97,115,116,83,117,110,32,50,58,48,48]⟩,⟨#[32,74,97,110,32,49,32,48,58,48,48,117]⟩,⟨#[32,74,117,110,32,49,32,49,58,48,48,115]⟩] _ RN) (by have:=S4.lt;omega) Q Q).mono ?_;rintro e w5 ⟨s5,rfl,z5,S5,g5⟩;have G5:=G4.trans (vaM g5);go_wp2;go_ret;exact⟨_,rfl,by simp only[ByteArray.size_append,sz1,szn];omega,S5,G5⟩
theorem vbR.grown{w:World}{b K p:Nat}(h:vbR w b n K)(hg:w.grownBy w' (some p))(az:b≠p):vbR w' b n K:=λi hi=>by
 have⟨s,hs,hz⟩:=h i hi;exact⟨s,hg.cell hs RO,hz⟩
theorem szZ:ByteArray.size ⟨#[90,111,110,101,32]⟩=5:=rfl
theorem szL:ByteArray.size ⟨#[76,105,110,107,32,69,117,47,65,32,65,108,105,97,115,10]⟩=16:=rfl
theorem vgm(p:Nat)(a:Option Addr)(len cap:Nat)(zs:List Int)(w:World)(hS:xu p a len cap zs w):
  C 41 #[.pointer (some (O p 0))] w λe w'=>∃s:ByteArray,e=V (I s)/\s.size<=50000/\xu p a len cap zs w'/\w.grownBy w' (some p):=by
 unfold C;go_in;go_wp2_with fail;refine(vcM p a len cap zs 3 _ hS Q Q).mono ?_;rintro e w1 ⟨v1,rfl,S1,G1⟩;cases v1
 all_goals
  go_wp2_with fail;refine(vad p a len cap zs 4 _ S1 Q Q).mono ?_;rintro e w2 ⟨k2,rfl,l2,u2,S2,g2⟩;have G2:=G1.trans g2;go_wp2;go_loopw [3,4] (λs3 s4 wr=>∃(t:ByteArray) (k:Nat),s3=I t/\s4=J k/\k<=3/\t.size+2000*k<=10000/\xu p a len cap zs wr/\w.grownBy wr (some p)) (λ_ s4 _=>(intOf s4).toNat)
  case atStart=>
   obtain⟨m,rfl⟩:=Int.eq_ofNat_of_zero_le l2;refine⟨_,m,rfl,rfl,Q,?_,S2,G2⟩;have h:∀t:ByteArray,t.size<=300->t.size+2000*m<=10000:=λt h=>Q
   exact h _ RN
  case round=>
   have⟨wa,dS⟩:=wL wr;subst dS;obtain⟨t,k,rfl,rfl,hk,ht,S3,G3⟩:=hrel;by_cases Cd:k=0
   .subst Cd
    have Q8:¬(0:Int)<((0:Nat):Int):=Q;have pT:vbR (wa.alloc (G (([⟨#[69,117,47,65]⟩,⟨#[69,117,47,66]⟩,⟨#[85,83,47,67]⟩]:List ByteArray).map Value.string).toArray 9)) wa.heap.size 3 100:=vaF wa _ _ RN;have S4:=S3.alloc (G (([⟨#[69,117,47,65]⟩,⟨#[69,117,47,66]⟩,⟨#[85,83,47,67]⟩]:List ByteArray).map Value.string).toArray 9);have G4:=G3.trans (World.grownBy_alloc wa (G (([⟨#[69,117,47,65]⟩,⟨#[69,117,47,66]⟩,⟨#[85,83,47,67]⟩]:List ByteArray).map Value.string).toArray 9) (some p));have Gh:wa.heap.size≠p:=by have:=S3.lt;omega
    have⟨bn,FD⟩:=ZL wa.heap.size;rw[FD]at pT Gh;have KI:t.size<=10000:=Q;go_wp2;clear FD;go_loopw [3,6] (λs3 s6 wr=>∃(t:ByteArray) (i:Nat),s3=I t/\s6=J i/\i<=3/\t.size<=10000+10000*i/\vbR wr bn 3 100/\xu p a len cap zs wr/\w.grownBy wr (some p)) (λ_ s6 _=>3-(intOf s6).toNat)
    .exact⟨t,0,rfl,rfl,Q,Q,pT,S4,G4⟩
    ·
     have⟨wb,mQ⟩:=wL wr;subst mQ;obtain⟨t,i,rfl,rfl,hi,ht,R5,S5,G5⟩:=hrel;go_wp2_with fail;refine(vad p a len cap zs 3 _ S5 Q Q).mono ?_;rintro e w6 ⟨n6,rfl,l6,u6,S6,g6⟩;have G6:=G5.trans g6;have R6:=R5.grown g6 Gh;have q6:IntKind.i64.wrap (1+n6)=1+n6:=by rw[IntKind.wrap_i64];omega
     by_cases hlt:(i:Int)<1+n6
     .have⟨s,hs,hz⟩:=R6 i Q
      have RE:(i:Int)<3:=Q;go_wp2_with fail;refine(vad p a len cap zs 3 _ S6 Q Q).mono ?_;rintro e w7 ⟨k7,rfl,l7,u7,S7,g7⟩;have G7:=G6.trans g7;have R7:=R6.grown g7 Gh;go_wp2;go_loopw [3,7,8] (λs3 s7 s8 wr=>∃(t2:ByteArray) (y k:Nat),s3=I t2/\s7=J y/\s8=J k/\k<=2/\y+40*k<=2100/\t2.size+2000*k<=t.size+5000/\vbR wr bn 3 100/\xu p a len cap zs wr/\w.grownBy wr (some p)) (λ_ _ s8 _=>(intOf s8).toNat)
      case atStart=>
       obtain⟨m,rfl⟩:=Int.eq_ofNat_of_zero_le l7;exact⟨_,1930,m,rfl,rfl,rfl,Q,Q,by simp only[ByteArray.size_append,szZ,sz1];omega,R7,S7,G7⟩
      case round=>
       have⟨wc,uG⟩:=wL wr;subst uG;obtain⟨t2,y,k,rfl,rfl,rfl,hk,hy,eH,R8,S8,G8⟩:=hrel;by_cases Cd:k=0
       .subst Cd
        have Q8:¬(0:Int)<((0:Nat):Int):=Q;go_wp2_with fail;refine(vgi p a len cap zs true 0 _ S8 Q Q).mono ?_;rintro e w9 ⟨s9,rfl,z9,S9,g9⟩;have G9:=G8.trans g9;have R9:=R8.grown g9 Gh;go_wp2;go_roundw
        .exact⟨_,i+1,rfl,RP,Q,by simp only[ByteArray.size_append];omega,R9,S9,G9⟩
        .simp[intOf];omega
       .have Q8:(0:Int)<(k:Int):=Q
        go_wp2_with fail;refine(vad p a len cap zs 35 _ S8 Q Q).mono ?_;rintro e w9 ⟨n9,rfl,l9,u9,S9,g9⟩;have G9:=G8.trans g9;have R9:=R8.grown g9 Gh;have q9:IntKind.i64.wrap ((y:Int)+1)=(y:Int)+1:=by rw[IntKind.wrap_i64];omega
        have q8:IntKind.i64.wrap ((y:Int)+1+n9)=(y:Int)+1+n9:=by rw[IntKind.wrap_i64];omega
        go_wp2_with fail;refine(vgi p a len cap zs false ((y:Int)+1+n9) _ S9 Q Q).mono ?_;rintro e jC ⟨mY,rfl,z10,lJ,kL⟩;have ul:=G9.trans kL;have M4:=R9.grown kL Gh;obtain⟨m,rfl⟩:=Int.eq_ofNat_of_zero_le l9;go_wp2;go_roundw
        .exact⟨_,y+1+m,k-1,rfl,RP,RP,Q,Q,by simp only[ByteArray.size_append];omega,M4,lJ,ul⟩
        .simp[intOf];omega
     .go_wp2_with fail
      refine(vcM p a len cap zs 2 _ S6 Q Q).mono ?_;rintro e w7 ⟨v7,rfl,S7,g7⟩;have G7:=G6.trans g7;cases v7
      .go_wp2
       go_ret;exact⟨_,rfl,Q,S7,G7⟩
      .go_wp2
       go_ret;exact⟨_,rfl,by simp only[ByteArray.size_append,szL];omega,S7,G7⟩
   .have Q8:(0:Int)<(k:Int):=Q
    go_wp2_with fail;refine(vaR p a len cap zs wa.heap.size 2 100 _ (S3.alloc _) (vaF wa [⟨#[69,117]⟩,⟨#[85,83]⟩] _ RN) (by have:=S3.lt;omega) Q Q).mono ?_;rintro e w4 ⟨s4,rfl,z4,S4,g4⟩;have G4:=G3.trans (vaM g4);go_wp2_with fail;refine(vi4 p a len cap zs s4 _ S4 z4).mono ?_;rintro e w5 ⟨s5,rfl,z5,S5,g5⟩;have G5:=G4.trans g5;go_wp2;go_roundw
    .exact⟨_,k-1,rfl,RP,Q,by simp only[ByteArray.size_append];omega,S5,G5⟩
    .simp[intOf];omega
theorem vi0(p:Nat)(a:Option Addr)(len cap:Nat)(zs:List Int)(w:World)(hS:xu p a len cap zs w):
  C 84 #[.pointer (some (O p 0))] w λe w'=>∃v:Int,e=V (J v)/\xu p a len cap zs w'/\w.grownBy w' (some p):=by
 have hp:=hS.lt;unfold C;go_in;go_wp2_with fail;refine(vad p a len cap zs 14 _ (hS.alloc _) Q Q).mono ?_;rintro e w1 ⟨v,rfl,v0,v1,Fq,hg⟩;have⟨x,hx⟩:=vfP [0,1, -1,2,1000,1001,2147483648,2147483647, -2147483648,4611686018427387904,9223372036854775807, -9223372036854775808,1000000,1000001] hp hg v0 (by simpa using v1);have hG:=vaM hg;clear hg;go_wp2;go_ret;exact⟨_,rfl,Fq,hG⟩
theorem vi2(p:Nat)(a:Option Addr)(len cap:Nat)(zs:List Int)(w:World)(hS:xu p a len cap zs w):
  C 47 #[.pointer (some (O p 0))] w λe w'=>∃v:Int,e=V (J v)/\xu p a len cap zs w'/\w.grownBy w' (some p):=by
 unfold C;go_in;go_wp2_with fail;refine(vcM p a len cap zs 8 _ hS Q Q).mono ?_;rintro e w1 ⟨v,rfl,Fq,cQ⟩;cases v
 .go_wp2_with fail
  refine(vad p a len cap zs 4000000000 _ Fq Q Q).mono ?_;rintro e w2 ⟨v,rfl,v0,v1,qf,bR⟩;go_wp2;go_ret;exact⟨_,rfl,qf,cQ.trans bR⟩
 .go_wp2_with fail
  refine(vi0 p a len cap zs _ Fq).mono ?_;rintro e w2 ⟨u,rfl,qf,bR⟩;go_wp2_with fail;refine(vad p a len cap zs 7 _ (qf.alloc _) Q Q).mono ?_;rintro e w3 ⟨v,rfl,v0,v1,Fs,nK⟩;have⟨x,hx⟩:=vfP [-62135596800, -62135596801,253402300799,253402300800,0, -1,u] qf.lt nK v0 (by simpa using v1);have hG:=vaM nK;clear nK;go_wp2;go_ret;exact⟨_,rfl,Fs,cQ.trans (bR.trans hG)⟩
section
open Go.RowKit Go.Lib Go.Sort
theorem xu.keep{p:Nat}{a:Option Addr}{len cap:Nat}{zs:List Int}{w:World}(h:xu p a len cap zs w)(hk:∀k,k<=p->w'.heap[k]? =w.heap[k]?):xu p a len cap zs w':=by
 have⟨k,cI,sz,k1,wm,ws,c0,c1,c2,c3,hf,ap,hl,hz⟩:=h;have hp:=hk p (ZD _);have hc:∀i,w'.cell? (O p i)=w.cell? (O p i):=λi=>World.cell?_of_block (a:=(O p i)) hp
 refine⟨k,cI,sz,k1,wm,ws,(hc 0).trans c0,(hc 1).trans c1,(hc 2).trans c2,(hc 3).trans c3,λi hi=>(World.frozen?_of_block (a:=(O p i)) hp).trans (hf i hi),?_,hl,hz⟩;rcases ap with h|⟨b,o,ha,az,fx⟩
 .exact .inl h
 .exact .inr ⟨b,o,ha,az,λi hi=>by
   have⟨z,h,z0,z1⟩:=fx i hi
   exact⟨z,(World.cell?_of_block (a:=(O b (o+i))) (hk b Q)).trans h,z0,z1⟩⟩
theorem vc2{w W x:World}{row:Option Nat}(h:w.grownBy W row)(hb:Below w.heap.size W x):w.grownBy x row:=⟨hb.os.trans h.os,hb.tape.trans h.tape,hb.output.trans h.output,Nat.le_trans h.size hb.size,λk hk az=>(hb.block k hk).trans (h.block k hk az)⟩
theorem vi6(p:Nat)(a:Option Addr)(len cap:Nat)(zs:List Int)(w:World)(hS:xu p a len cap zs w):
  C 45 #[.pointer (some (O p 0))] w λe w'=>∃s:ByteArray,e=V (I s)/\s.size<=100/\xu p a len cap zs w'/\w.grownBy w' (some p):=by
 unfold C;go_in;go_wp2_with fail;refine(vaR p a len cap zs w.heap.size 5 100 _ (hS.alloc _) (vaF w [⟨#[69,117,47,65]⟩,⟨#[69,117,47,65]⟩,⟨#[69,117,47,66]⟩,⟨#[65,108,105,97,115]⟩,⟨#[78,111,110,101]⟩] _ RN) (by have:=hS.lt;omega) Q Q).mono ?_;rintro e w1 ⟨s,rfl,z,S1,g1⟩;go_wp2;go_ret;exact⟨_,rfl,z,S1,(World.grownBy_alloc w _ _).trans g1⟩
structure EvS(p:Nat)(a:Option Addr)(len cap:Nat)(zs:List Int)(w W:World)(g:Nat)(L:List Value):Prop where
 src:xu p a len cap zs W
 var:Zh W g L
 res:Zh W w.heap.size [J 0,Rn,Rn,J 0,J 0,J 0]
 ge:w.heap.size<g
 lt:p<w.heap.size
 gr:w.grownBy W (some p)
section
variable {p : Nat} {a : Option Addr} {len cap : Nat} {zs : List Int} {w W W' : World} {g : Nat} {L : List Value}
theorem EvS.draw(h:EvS p a len cap zs w W g L)(hS:xu p a len cap zs W')(hg:W.grownBy W' (some p)):EvS p a len cap zs w W' g L:=by
 have h1:=h.ge;have h2:=h.lt;exact⟨hS,h.var.grown hg RO,h.res.grown hg RO,h1,h2,h.gr.trans hg⟩
theorem EvS.below(h:EvS p a len cap zs w W g L)(hb:Bw W W'):EvS p a len cap zs w W' g L:=⟨h.src.grown hb,h.var.below hb,h.res.below hb,h.ge,h.lt,h.gr.trans (World.vbk hb _)⟩
theorem EvS.set(h:EvS p a len cap zs w W g L)(j:Nat)(v:Value):EvS p a len cap zs w (W.setCell (O g j) v) g (L.set j v):=by
 have h1:=h.ge;have h2:=h.lt;exact⟨h.src.keep λk hk=>heap_setCell_other W (O g j) k v RO,h.var.set v,h.res.other Q v,h1,h2,vc2 h.gr ((ZU _ _).setCell (show w.heap.size<=g by omega) v)⟩
end
end
section
open Go.RowKit Go.Lib Go.Sort
theorem Zh.six{w:World}{g:Nat}(h:Zh w g [p0,p1,p2,p3,p4,p5]):w.cell? (O g 0)=some p0/\w.cell? (O g 1)=some p1/\w.cell? (O g 2)=some p2/\w.cell? (O g 3)=some p3/\w.cell? (O g 4)=some p4/\w.cell? (O g 5)=some p5:=⟨h.c 0 rfl,h.c 1 rfl,h.c 2 rfl,h.c 3 rfl,h.c 4 rfl,h.c 5 rfl⟩
theorem Zh.vdd{w:World}{g:Nat}(h:Zh w g [p0,p1,p2,p3,p4,p5]):w.frozen? (O g 0)=false/\w.frozen? (O g 1)=false/\w.frozen? (O g 2)=false/\w.frozen? (O g 3)=false/\w.frozen? (O g 4)=false/\w.frozen? (O g 5)=false:=⟨h.f 0 rfl,h.f 1 rfl,h.f 2 rfl,h.f 3 rfl,h.f 4 rfl,h.f 5 rfl⟩
theorem EvS.fin{p:Nat}{a:Option Addr}{len cap:Nat}{zs:List Int}{w W:World}{g:Nat}(h:EvS p a len cap zs w W g [p0,p1,p2,p3,p4,p5]):∃X,(((((W.setCell (O w.heap.size 0) p0).setCell (O w.heap.size 1) p1).setCell (O w.heap.size 2) p2).setCell (O w.heap.size 3) p3).setCell (O w.heap.size 4) p4).setCell (O w.heap.size 5) p5=X/\(X.cell? (O w.heap.size 0)=some p0/\X.cell? (O w.heap.size 1)=some p1/\X.cell? (O w.heap.size 2)=some p2/\X.cell? (O w.heap.size 3)=some p3/\X.cell? (O w.heap.size 4)=some p4/\X.cell? (O w.heap.size 5)=some p5)/\xu p a len cap zs X/\w.grownBy X (some p):=by
 have⟨X,hX,K⟩:=vaQ w.heap.size W [(0,p0),(1,p1),(2,p2),(3,p3),(4,p4),(5,p5)];have h1:=h.lt;refine⟨X,hX,Zh.six (K.var _ h.res),h.src.keep λk hk=>K.blk k Q,vc2 h.gr (K.ZB _ _ (ZD _) (ZU _ _))⟩
theorem vhY(y m:Int)(w:World)(hy:Ng y m=true):C 46 #[J y,J m,I ⟨#[108,97,115,116,83,117,110]⟩] w λe w'=>∃t:Int,e=V (J t)/\Bw w w':=(jkw y m ⟨#[108,97,115,116,83,117,110]⟩ w hy RN).mono λ_ _ h=>⟨_,h⟩
theorem vgj(p:Nat)(a:Option Addr)(len cap:Nat)(zs:List Int)(w:World)(hS:xu p a len cap zs w):
  C 20 #[.pointer (some (O p 0))] w λe w'=>∃ev:Ze,e=V ev.v/\ev.name.size<=100/\ev.YZ.size<=100/\(0<=ev.id/\ev.id<=1000001)/\xu p a len cap zs w'/\w.grownBy w' (some p):=by
 have hp:=hS.lt;have b0:=ZA w (G #[J 0,Rn,Rn,J 0,J 0,J 0] 33);have V0:=Zh.new w [J 0,Rn,Rn,J 0,J 0,J 0] 33;have S0:=hS.grown b0;have G0:=World.vbk b0 (some p);have az:some w.heap.size≠some p:=RO;clear hS;unfold C;go_in;go_wp2_with fail;refine(vad p a len cap zs 6 _ S0 Q Q).mono ?_;rintro e w1 ⟨n1,rfl,l1,u1,S1,g1⟩;have G1:=G0.trans g1;have V1:=V0.grown g1 az;have q1:IntKind.i64.wrap (1+n1)=1+n1:=by rw[IntKind.wrap_i64];omega
 have b1:=ZA w1 (G #[I ⟨#[97]⟩,I ⟨#[98]⟩] 9);clear S0 G0 V0 g1 b0;go_wp2_with fail;refine(vaR p a len cap zs w1.heap.size 2 100 _ (S1.alloc _) (vaF w1 [⟨#[97]⟩,⟨#[98]⟩] _ RN) (by have:=S1.lt;omega) Q Q).mono ?_;rintro e w2 ⟨nm,rfl,z2,S2,g2⟩;have G2:=(G1.trans (World.vbk b1 _)).trans g2;have V2:=(V1.below b1).grown g2 az;clear S1 G1 V1 g2 b1;go_wp2_with fail;refine(vi6 p a len cap zs _ S2).mono ?_;rintro e w3 ⟨zn,rfl,z3,S3,g3⟩;have G3:=G2.trans g3;have V3:=V2.grown g3 az;clear S2 G2 V2 g3;go_wp2_with fail;refine(vad p a len cap zs 3 _ S3 Q Q).mono ?_;rintro e w4 ⟨n4,rfl,l4,u4,S4,g4⟩;have G4:=G3.trans g4;have V4:=V3.grown g4 az;clear S3 G3 V3 g4;go_wp2_with fail;refine(vad p a len cap zs 3 _ S4 Q Q).mono ?_;rintro e w5 ⟨n5,rfl,l5,u5,S5,g5⟩;have G5:=G4.trans g5;have V5:=V4.grown g5 az;have b6:=ZA w5 (G #[J (1+n1),I nm,I zn,J 0,J n4,J n5] 33);have E6:EvS p a len cap zs w _ w5.heap.size [J (1+n1),I nm,I zn,J 0,J n4,J n5]:=⟨S5.grown b6,Zh.new w5 [J (1+n1),I nm,I zn,J 0,J n4,J n5] 33,V5.below b6,ZI (V5.c 0 rfl),hp,G5.trans (World.vbk b6 _)⟩;clear S4 G4 V4 g5 S5 G5 V5 b6 az;go_wp2_with fail;refine(vad p a len cap zs 20 _ E6.src Q Q).mono ?_;rintro e w7 ⟨n7,rfl,l7,u7,S7,g7⟩;have E7:=E6.draw S7 g7;have⟨g,hg⟩:=ZL w5.heap.size;rw[hg]at E7 ⊢;have q7:IntKind.i64.wrap (1985+n7)=1985+n7:=by rw[IntKind.wrap_i64];omega
 have b8:=ZA w7 (G #[J 3,J 10,J 6] 2);clear E6 S7 g7 hg;go_wp2_with fail;refine(vad p a len cap zs 3 _ (E7.src.grown b8) Q Q).mono ?_;rintro e w8 ⟨n8,rfl,l8,u8,S8,g8⟩;obtain⟨k8,rfl⟩:=Int.eq_ofNat_of_zero_le l8;have E8:=(E7.below b8).draw S8 g8;have I2:=g8.cell (a:=(O w7.heap.size k8)) (vc9 w7 2 [3,10,6] k8 RO) (by have:=E7.src.lt;simp;omega)
 obtain⟨m,hm,h8⟩:∃m:Int,(1<=m/\m<=12)/\w8.cell? (O w7.heap.size k8)=some (J m):=⟨_,(by
  have:k8=0\/k8=1\/k8=2:=Q
  rcases this with rfl|rfl|rfl<;>decide),I2⟩
 clear I2;have hO:=vhY (1985+n7) m w8 (rT Q);clear E7 S8 g8 b8;go_wp2_with fail;refine hO.mono ?_;rintro e w9 ⟨t9,rfl,bZ⟩;have E9:=E8.below bZ;clear hO E8 bZ h8;go_wp2_with fail;refine(vad p a len cap zs 5 _ E9.src Q Q).mono ?_;rintro e jC ⟨qh,rfl,Ff,Ln,lJ,kL⟩;have gX:=E9.draw lJ kL;have v3:=gX.var.c 3 rfl;have Lo:=gX.var.f 3 rfl;clear E9 lJ kL;go_wp2_with fail;refine(vcM p a len cap zs 25 _ (gX.set 3 _).src Q Q).mono ?_;rintro e AV ⟨v12,rfl,uT,IY⟩;obtain⟨wl,qr⟩:∃wl,EvS p a len cap zs w AV g [J (1+n1),I nm,I zn,J wl,J n4,J n5]:=⟨_,(gX.set 3 _).draw uT IY⟩;clear gX uT IY v3 Lo;cases v12
 .skip
  have⟨e0,e1,e2,e3,e4,e5⟩:=qr.var.six;have⟨r0,r1,r2,r3,r4,r5⟩:=qr.res.six;have⟨f0,f1,f2,f3,f4,f5⟩:=qr.res.vdd;have⟨W,hW,⟨t0,t1,t2,t3,t4,t5⟩,SF,GF⟩:=qr.fin;clear qr;go_wp2;exact ZM (v:=.agg #[J (1+n1),I nm,I zn,J (wl),J (n4),J (n5)]) (by simp[results,Tryz.results20,go_sem,t0,t1,t2,t3,t4,t5]) rfl ⟨⟨1+n1,nm,zn,wl,n4,n5⟩,rfl,z2,z3,⟨by show 0<=1+n1;omega,by show 1+n1<=1000001;omega⟩,SF,GF⟩
 .go_wp2_with fail
  refine(vad p a len cap zs 3 _ qr.src Q Q).mono ?_;rintro e Fk ⟨AU,rfl,Sd,Sn,Hq,I1⟩;have pk:=qr.draw Hq I1;clear qr Hq I1;by_cases h0:AU=0
  .subst h0
   have BU:=ZA Fk (G #[J 0,J 1000000,J 1000001] 2);go_wp2_with fail;refine(vad p a len cap zs 3 _ (pk.src.grown BU) Q Q).mono ?_;rintro e Fw ⟨sS,rfl,L7,Qx,qL,pI⟩;obtain⟨xJ,rfl⟩:=Int.eq_ofNat_of_zero_le L7;have lW:=(pk.below BU).draw qL pI;have Rq:=pI.cell (a:=(O Fk.heap.size xJ)) (vc9 Fk 2 [0,1000000,1000001] xJ RO) (by have:=pk.src.lt;simp;omega)
   have C8:=ZE (show 0<=([0,1000000,1000001]:List Int).getD xJ 0/\([0,1000000,1000001]:List Int).getD xJ 0<=1000001 by
    have:xJ=0\/xJ=1\/xJ=2:=Q
    rcases this with rfl|rfl|rfl<;>decide)
   generalize ([0,1000000,1000001]:List Int).getD xJ 0=pZ at *;have v0:=lW.var.c 0 rfl;have Sr:=lW.var.f 0 rfl;have kQ:EvS p a len cap zs w _ g [J pZ,I nm,I zn,J wl,J n4,J n5]:=lW.set 0 (J pZ);clear pk lW qL pI BU;have⟨e0,e1,e2,e3,e4,e5⟩:=kQ.var.six;have⟨r0,r1,r2,r3,r4,r5⟩:=kQ.res.six;have⟨f0,f1,f2,f3,f4,f5⟩:=kQ.res.vdd;have⟨W,hW,⟨t0,t1,t2,t3,t4,t5⟩,SF,GF⟩:=kQ.fin;clear kQ;go_wp2;exact ZM (v:=.agg #[J (pZ),I nm,I zn,J (wl),J (n4),J (n5)]) (by simp[results,Tryz.results20,go_sem,t0,t1,t2,t3,t4,t5]) rfl ⟨⟨pZ,nm,zn,wl,n4,n5⟩,rfl,z2,z3,C8.out,SF,GF⟩
  .have kA:(AU==0)=false:=by simpa using h0
   by_cases h1:AU=1
   .subst h1
    go_wp2_with fail;refine(vi2 p a len cap zs _ pk.src).mono ?_;rintro e Fw ⟨pZ,rfl,qL,pI⟩;have lW:=pk.draw qL pI;have v3:=lW.var.c 3 rfl;have Lo:=lW.var.f 3 rfl;have kQ:EvS p a len cap zs w _ g [J (1+n1),I nm,I zn,J pZ,J n4,J n5]:=lW.set 3 (J pZ);clear pk lW qL pI;have⟨e0,e1,e2,e3,e4,e5⟩:=kQ.var.six;have⟨r0,r1,r2,r3,r4,r5⟩:=kQ.res.six;have⟨f0,f1,f2,f3,f4,f5⟩:=kQ.res.vdd;have⟨W,hW,⟨t0,t1,t2,t3,t4,t5⟩,SF,GF⟩:=kQ.fin;clear kQ;go_wp2;exact ZM (v:=.agg #[J (1+n1),I nm,I zn,J (pZ),J (n4),J (n5)]) (by simp[results,Tryz.results20,go_sem,t0,t1,t2,t3,t4,t5]) rfl ⟨⟨1+n1,nm,zn,pZ,n4,n5⟩,rfl,z2,z3,⟨by show 0<=1+n1;omega,by show 1+n1<=1000001;omega⟩,SF,GF⟩
   .have aX:(AU==1)=false:=by simpa using h1
    go_wp2_with fail;refine(vad p a len cap zs 5 _ pk.src Q Q).mono ?_;rintro e Fw ⟨sS,rfl,L7,Qx,qL,pI⟩;have lW:=pk.draw qL pI;have v4:=lW.var.c 4 rfl;have Ss:=lW.var.f 4 rfl;have Sk:IntKind.i64.wrap (sS-1)=sS-1:=by rw[IntKind.wrap_i64];omega
    have kQ:EvS p a len cap zs w _ g [J (1+n1),I nm,I zn,J wl,J (sS-1),J n5]:=lW.set 4 (J (sS-1));clear pk lW qL pI;have⟨e0,e1,e2,e3,e4,e5⟩:=kQ.var.six;have⟨r0,r1,r2,r3,r4,r5⟩:=kQ.res.six;have⟨f0,f1,f2,f3,f4,f5⟩:=kQ.res.vdd;have⟨W,hW,⟨t0,t1,t2,t3,t4,t5⟩,SF,GF⟩:=kQ.fin;clear kQ;go_wp2;exact ZM (v:=.agg #[J (1+n1),I nm,I zn,J (wl),J (sS-1),J (n5)]) (by simp[results,Tryz.results20,go_sem,t0,t1,t2,t3,t4,t5]) rfl ⟨⟨1+n1,nm,zn,wl,sS-1,n5⟩,rfl,z2,z3,⟨by show 0<=1+n1;omega,by show 1+n1<=1000001;omega⟩,SF,GF⟩
end
theorem veE(y:Int): -9223372036854775808<=wrap64 y/\wrap64 y<=9223372036854775807:=by unfold wrap64;omega
theorem viZ(p:Nat)(a:Option Addr)(len cap:Nat)(zs:List Int)(bv:Int)(w:World)(hS:xu p a len cap zs w)(h2:bv<=9223372036854775807):
  C 37 #[.pointer (some (O p 0)),J bv] w λe w'=>∃v:Int,e=V (J v)/\(-9223372036854775808<=v/\v<=9223372036854775807)/\xu p a len cap zs w'/\w.grownBy w' (some p):=by
 by_cases hm:bv<=1
 .unfold C;go_in
  go_wp2;go_ret;exact⟨0,rfl,Q,hS,World.grownBy.refl _ _⟩
 have⟨k,cI,sz,k1,wm,ws,c0,c1,c2,c3,hf,ap,hl,hz⟩:=hS;have f1:=hf 1 Q;have f2:=hf 2 Q;have QU:=fun(W:World) v v'=>vf5 W p 2 v v'
 by_cases hlt:k<len
 .rcases ap with h|⟨b,o,rfl,az,hc⟩
  .omega
  have⟨z,aH,z0,z1⟩:=hc k hlt;have G0:p≠b:=Q;have hR:Hid (len=0\/∃b' o',some ((O b o):Addr)=some (O b' o')/\b'<p/\∀i,i<len->∃z:Int,w.cell? (O b' (o'+i))=some (.int .u8 z)/\0<=z/\z<=255):=.inr ⟨b,o,rfl,az,hc⟩;have HF:=hid hf;clear hc hf;unfold C;go_in;go_wp2;go_quiet (fail);go_wp2;go_quiet (fail);go_wp2;go_region;go_wp2;go_region;go_wp2;go_region;go_wp2;go_ret;refine⟨_,rfl,veE _,?_⟩;exact vdH (w:=w) (w1:=w.setCell (O p 1) (J ((k:Int)+1))) (k:=k+1) Q (wf_bits .xor .u64 _ _) ws (Lib.grownBy_setB (World.grownBy.refl w (some p)) 1 _) c0 c3 HF.out hR.out hl hz
   (ZT _ _ _ _ (vbW Q)) (by rw[Bf _ _ _ c1];rfl) ((ZT _ _ _ _ (vbW Q)).trans c2) (ZT _ _ _ _ (vbW Q)) (λ_=>World.frozen?_setCell _ _ _ _) rfl rfl rfl rfl
 .have hR:=hid ap
  have HF:=hid hf;clear ap hf;unfold C;go_in;go_wp2;go_quiet (fail);go_wp2;go_region;go_wp2;go_region;go_wp2;go_region;go_wp2;go_ret;refine⟨_,rfl,veE _,?_⟩;exact vdH k1 (wf_bits .xor .u64 _ _) ws (World.grownBy.refl w (some p)) c0 c3 HF.out hR.out hl hz rfl c1 c2 rfl (λ_=>rfl) rfl rfl rfl rfl
