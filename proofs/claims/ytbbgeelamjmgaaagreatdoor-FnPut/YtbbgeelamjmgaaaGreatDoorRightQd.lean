import Derived.Test.YtbbgeelamjmgaaaGreatDoorOnPd
import Derived.Test.YtbbgeelamjmgaaaGreatDoorRelPd
set_option maxHeartbeats 0
set_option linter.unusedSimpArgs false
open Go.RowKit
namespace Go.Proofs.YtbbgeelamjmgaaaGreatDoor
variable{s:ByteArray}{k:Nat}{w w':World}{es:List ZH}{z:pE}{a:Option Addr}{ss:List ByteArray}
def ofB(s:ByteArray):Bool:=(s.toList==[119]) || ((s.toList==[115]) || (s.toList==[117]))
theorem jgz(s:ByteArray)(w:World):
  C 151 #[I s] w λe w'=>e=V (.bool (ofB s))/\w'=w:=by
 unfold ofB;cases h1:(s.toList==[119])
 .cases h2:(s.toList==[115])
  .unfold C;go_in
   go_wp2;go_ret;exact⟨ZG M,rfl⟩
  .unfold C;go_in
   go_wp2;go_ret;exact⟨ZG M,rfl⟩
 .unfold C;go_in
  go_wp2;go_ret;exact⟨ZG M,rfl⟩
theorem jku(s:ByteArray)(w:World):
  C 106 #[I s] w λe w'=>e=V (.bool (ofB s))/\w'=w:=by
 unfold ofB;cases h1:(s.toList==[119])
 .cases h2:(s.toList==[115])
  .unfold C;go_in
   go_wp2;go_ret;exact⟨ZG M,rfl⟩
  .unfold C;go_in
   go_wp2;go_ret;exact⟨ZG M,rfl⟩
 .unfold C;go_in
  go_wp2;go_ret;exact⟨ZG M,rfl⟩
theorem je2(n:Int)(w:World):
  C 152 #[J n] w λe w'=>e=V (.bool (ZX n (-7200) 7200))/\w'=w:=by
 by_cases h: -7200<=n
 .unfold C;go_in
  go_wp2;go_ret;exact⟨ZG (by unfold ZX;simp[h]),rfl⟩
 .unfold C;go_in
  go_wp2;go_ret;exact⟨ZG (jj8 Q).symm,rfl⟩
theorem jgr(n:Int)(w:World):
  C 107 #[J n] w λe w'=>e=V (.bool (ZX n (-7200) 7200))/\w'=w:=by
 unfold C;go_in;go_wp2_with (go_at_call 31;refine(jau _ _ _ _).mono ?_;rintro e w' ⟨rfl,rfl⟩);go_ret;exact⟨rfl,rfl⟩
theorem je0(n:Int)(w:World):
  C 149 #[J n] w λe w'=>e=V (.bool (ZX n 1 9999))/\w'=w:=by
 by_cases h:1<=n
 .unfold C;go_in
  go_wp2;go_ret;exact⟨ZG (by unfold ZX;simp[h]),rfl⟩
 .unfold C;go_in
  go_wp2;go_ret;exact⟨ZG (jj8 Q).symm,rfl⟩
def lbB(c:Int):Bool:=vab c || (c==43 || c==45)
def ltB(s:ByteArray):Bool:=decide (s.size<=6)&&(!(s.toList==[45])&&decide (∀i,i<s.size->lbB (Z0 s i)=true))
theorem j3i(h:6<s.size):ltB s=false:=by unfold ltB;rw[dfe Q];rfl
theorem j3h(h:(s.toList==[45])=true):ltB s=false:=by unfold ltB;rw[h];simp
theorem j07(hk:k<s.size)(h:lbB (Z0 s k)=false):ltB s=false:=by
 unfold ltB;have:decide (∀i,i<s.size->lbB (Z0 s i)=true)=false:=dfe λhn=>by rw[hn k hk]at h;cases h
 rw[this];simp
theorem j08(h:∀i,i<s.size->lbB (Z0 s i)=true):ltB s=(decide (s.size<=6)&& !(s.toList==[45])):=by
 unfold ltB;rw[rT h];simp
theorem j3l{c:Int}(h:lbB c=false):vab c=false/\(c != 43)=true/\(c != 45)=true:=by
 unfold lbB at h;simp at h;simpa using h
theorem jhf(s:ByteArray)(w:World)(hs:s.size<=maxLen):
  C 153 #[I s] w λe w'=>e=V (.bool (ltB s))/\w'=w:=by
 unfold maxLen at hs;by_cases h6:6<s.size
 .rw[j3i h6]
  unfold C;go_in;go_wp2;go_ret;exact⟨rfl,rfl⟩
 cases hm:(s.toList==[45])
 .unfold C;go_in
  go_wp2;go_loop [14] (λi=>∃k:Nat,k<=s.size/\i=J k/\Hid (∀j,j<k->lbB (Z0 s j)=true)) (λi=>s.size-(intOf i).toNat)
  .exact⟨0,Q,rfl,vcd⟩
  ·
   obtain⟨k,hk,rfl,ak⟩:=hrel;by_cases hlt:k<s.size
   .have hB:=λw=>jcq (Z0 s k) w
    have e:=jai s k hlt;cases hb:lbB (Z0 s k)
    .have HB:Hid (ltB s=false):=j07 hlt hb
     have⟨g1,g2,g3⟩:=j3l hb;rw[g1, <- e]at hB;rw[<- e]at g2 g3;clear hb e g1;go_wp2_with (go_at_call 137;refine(hB _).mono ?_;rintro e w' ⟨rfl,rfl⟩);go_ret;exact⟨ZG HB.out.symm,rfl⟩
    .have HB:Hid (∀j,j<k+1->lbB (Z0 s j)=true):=jbi ak.out hb
     unfold lbB at hb;cases g1:vab (Z0 s k)
     .rw[g1]at hb hB
      simp at hb;rw[<- e]at hB hb;by_cases g2:(s[k].toNat:Int)=43
      .have ke:((s[k].toNat:Int) != 43)=false:=by simp[g2]
       clear e g1 hb g2;go_wp2_with (go_at_call 137;refine(hB _).mono ?_;rintro e w' ⟨rfl,rfl⟩);go_round
       .exact⟨k+1,Q,RP,HB⟩
       .simp[intOf];omega
      .have ke:((s[k].toNat:Int) != 43)=true:=by simpa using g2
       have J0:((s[k].toNat:Int) != 45)=false:=RO;clear e g1 hb g2;go_wp2_with (go_at_call 137;refine(hB _).mono ?_;rintro e w' ⟨rfl,rfl⟩);go_round
       .exact⟨k+1,Q,RP,HB⟩
       .simp[intOf];omega
     .rw[g1, <- e]at hB
      clear e g1 hb;go_wp2_with (go_at_call 137;refine(hB _).mono ?_;rintro e w' ⟨rfl,rfl⟩);go_round
      .exact⟨k+1,Q,RP,HB⟩
      .simp[intOf];omega
   .have e:k=s.size:=Q
    subst e;have HB:Hid (ltB s=true):=by
     simp only[Hid];rw[j08 ak.out,hm];simp;omega
    go_wp2;go_ret;exact⟨ZG HB.out.symm,rfl⟩
 .rw[j3h hm]
  unfold C;go_in;go_wp2;go_ret;exact⟨rfl,rfl⟩
theorem jjy(s:ByteArray)(w:World)(hs:s.size<=maxLen):
  C 108 #[I s] w λe w'=>e=V (.bool (ltB s))/\w'=w:=by
 unfold maxLen at hs;unfold C;go_in;go_wp2;go_loop [3] (λi=>∃k:Nat,k<=s.size/\i=J k/\Hid (∀j,j<k->lbB (Z0 s j)=true)) (λi=>s.size-(intOf i).toNat)
 .exact⟨0,Q,rfl,vcd⟩
 ·
  obtain⟨k,hk,rfl,ak⟩:=hrel;by_cases hlt:k<s.size
  .have hB:=λw=>jcd (Z0 s k) w
   have e:=jai s k hlt;cases hb:lbB (Z0 s k)
   .have HB:Hid (ltB s=false):=j07 hlt hb
    have⟨g1,g2,g3⟩:=j3l hb;rw[g1, <- e]at hB;rw[<- e]at g2 g3;clear hb e g1;go_wp2_with (go_at_call 97;refine(hB _).mono ?_;rintro e w' ⟨rfl,rfl⟩);go_ret;exact⟨ZG HB.out.symm,rfl⟩
   .have HB:Hid (∀j,j<k+1->lbB (Z0 s j)=true):=jbi ak.out hb
    unfold lbB at hb;cases g1:vab (Z0 s k)
    .rw[g1]at hb hB
     simp at hb;rw[<- e]at hB hb;by_cases g2:(s[k].toNat:Int)=43
     .have ke:((s[k].toNat:Int) != 43)=false:=by simp[g2]
      clear e g1 hb g2;go_wp2_with (go_at_call 97;refine(hB _).mono ?_;rintro e w' ⟨rfl,rfl⟩);go_round
      .exact⟨k+1,Q,RP,HB⟩
      .simp[intOf];omega
     .have ke:((s[k].toNat:Int) != 43)=true:=by simpa using g2
      have J0:((s[k].toNat:Int) != 45)=false:=RO;clear e g1 hb g2;go_wp2_with (go_at_call 97;refine(hB _).mono ?_;rintro e w' ⟨rfl,rfl⟩);go_round
      .exact⟨k+1,Q,RP,HB⟩
      .simp[intOf];omega
    .rw[g1, <- e]at hB
     clear e g1 hb;go_wp2_with (go_at_call 97;refine(hB _).mono ?_;rintro e w' ⟨rfl,rfl⟩);go_round
     .exact⟨k+1,Q,RP,HB⟩
     .simp[intOf];omega
  .have e:k=s.size:=Q
   subst e;have HB:Hid (ltB s=(decide (s.size<=6)&& !(s.toList==[45]))):=j08 ak.out;by_cases h6:s.size<=6
   .go_wp2
    go_ret;exact⟨ZG (by rw[HB.out];simp[h6]),rfl⟩
   .go_wp2
    go_ret;exact⟨ZG (by rw[HB.out];simp[h6]),rfl⟩
def Zx(w:World):Prop:=Bz w/\Mx w
theorem Zx.of_below(h:Zx w)(hb:Bw w w'):Zx w':=⟨h.1.of_below hb,h.2.of_below hb⟩
theorem Zx.alloc(h:Zx w)(o:Obj):Zx (w.alloc o):=⟨h.1.alloc o,h.2.alloc o⟩
def onB(s:ByteArray):Bool:=Nn 2000 1 s != -1000000
theorem jol(s:ByteArray)(w:World)(hE:Zx w)(hz:s.size<=1048576):
  C 150 #[I s] w λe w'=>e=V (.bool (onB s))/\Bw w w':=by
 have hX:=λw (h:Zx w)=>joi 2000 1 s w h.1 h.2 hz
 unfold onB;generalize Nn 2000 1 s=r at *;unfold C;go_in;go_wp2_with fail;refine(hX _ hE).mono ?_;rintro e w1 ⟨rfl,hb⟩;go_wp2;go_ret;exact⟨rfl,hb⟩
theorem jh7(s:ByteArray)(w:World)(hz:s.size<=1048576):
  C 105 #[I s] w λe w'=>e=V (.bool (onB s))/\Bw w w':=by
 have hy:Ng 2000 1=true:=RN;have hX:=λw=>jkw 2000 1 s w hy hz
 have e:Nn 2000 1 s=M0 2000 1 s:=by unfold Nn;rw[hy,if_pos rfl,jig hy]
 unfold onB;rw[e];clear e;generalize M0 2000 1 s=r at *;unfold C;go_in;go_wp2_with fail;refine(hX _).mono ?_;rintro e w1 ⟨rfl,hb⟩;go_wp2;go_ret;exact⟨rfl,hb⟩
def BF(r:ZQ):Bool:=BH r.name&&(ZX r.lo 1 9999&&(ZX r.hi r.lo 9999&&(ZX r.pU 1 12&&(onB r.on&&(ZX r.at_ 0 604800&&(ofB r.of&&(ZX r.YX (-7200) 7200&&ltB r.ZR)))))))
def jyt(r:ZQ):Bool:=BH r.name&&(ZX r.lo 1 9999&&(ZX r.hi 1 9999&&(decide (r.lo<=r.hi)&&(decide (1<=r.pU)&&(decide (r.pU<=12)&&(onB r.on&&(decide (0<=r.at_)&&(decide (r.at_<=604800)&&(ofB r.of&&(ZX r.YX (-7200) 7200&&ltB r.ZR))))))))))
theorem jvk(r:ZQ):jyt r=BF r:=by
 unfold jyt BF;have e1:ZX r.pU 1 12=(decide (1<=r.pU)&&decide (r.pU<=12)):=by unfold ZX;simp
 have e2:ZX r.at_ 0 604800=(decide (0<=r.at_)&&decide (r.at_<=604800)):=by unfold ZX;simp
 have e3:(ZX r.lo 1 9999&&(ZX r.hi 1 9999&&decide (r.lo<=r.hi)))=(ZX r.lo 1 9999&&ZX r.hi r.lo 9999):=by
  rw[Bool.eq_iff_iff];unfold ZX;simp;omega
 rw[e1,e2];have e4:∀x,(ZX r.lo 1 9999&&(ZX r.hi 1 9999&&(decide (r.lo<=r.hi)&&x)))=(ZX r.lo 1 9999&&(ZX r.hi r.lo 9999&&x)):=λx=>by
  rw[<- Bool.and_assoc (ZX r.hi 1 9999), <- Bool.and_assoc (ZX r.lo 1 9999),e3,Bool.and_assoc]
 rw[e4];simp only[Bool.and_assoc]
theorem ji7(r:ZQ)(w:World)(hE:Zx w)(ok:r.ok)(hz:r.on.size<=1048576):
  C 121 #[r.v] w λe w'=>e=V (.bool (jyt r))/\Bw w w':=by
 obtain⟨name,lo,hi,pU,on,at_,of,YX,ZR⟩:=r;have⟨k1,k2,k3,k4⟩:=ok;simp only[ZQ.v,jyt]at *;have h1:=λw=>ja7 name w k1
 have h2:=λw=>je0 lo w
 have h3:=λw=>je0 hi w
 have h4:=λw (h:Zx w)=>jol on w h hz
 have h5:=λw=>jgz of w
 have h6:=λw=>je2 YX w
 have h7:=λw=>jhf ZR w k4
 generalize BH name=b1 at *;generalize ZX lo 1 9999=b2 at *;generalize ZX hi 1 9999=b3 at *;generalize onB on=b4 at *;generalize ofB of=b5 at *;generalize ZX YX (-7200) 7200=b6 at *;generalize ltB ZR=b7 at *;have ag:=λo=>ZA w o
 unfold C;go_in;go_wp2_with fail;refine(h1 _).mono ?_;rintro e w9 ⟨rfl,rfl⟩;cases b1
 case false=>
  go_wp2;go_ret;exact⟨ZG M,(ag _)⟩
 go_wp2_with fail;refine(h2 _).mono ?_;rintro e w9 ⟨rfl,rfl⟩;cases b2
 case false=>
  go_wp2;go_ret;exact⟨ZG M,(ag _)⟩
 go_wp2_with fail;refine(h3 _).mono ?_;rintro e w9 ⟨rfl,rfl⟩;cases b3
 case false=>
  go_wp2;go_ret;exact⟨ZG M,(ag _)⟩
 by_cases g1:lo<=hi
 case neg=>
  go_wp2;go_ret;exact⟨ZG (by simp;intros;omega),(ag _)⟩
 by_cases g2:1<=pU
 case neg=>
  go_wp2;go_ret;exact⟨ZG (by simp;intros;omega),(ag _)⟩
 by_cases g3:pU<=12
 case neg=>
  go_wp2;go_ret;exact⟨ZG (by simp;intros;omega),(ag _)⟩
 go_wp2_with fail;refine(h4 _ (hE.alloc _)).mono ?_;rintro e w1 ⟨rfl,hb1⟩;have⟨hc,_⟩:=Z4 hb1;have hlt:w.heap.size<w1.heap.size:=by have:=hb1.size;simp at this;omega
 have aj:=(ag _).trans (hb1.mono M);cases b4
 case false=>
  go_wp2;go_ret;exact⟨ZG M,aj⟩
 by_cases g4:0<=at_
 case neg=>
  go_wp2;go_ret;exact⟨ZG (by simp;intros;omega),aj⟩
 by_cases g5:at_<=604800
 case neg=>
  go_wp2;go_ret;exact⟨ZG (by simp;intros;omega),aj⟩
 go_wp2_with fail;refine(h5 _).mono ?_;rintro e w9 ⟨rfl,rfl⟩;cases b5
 case false=>
  go_wp2;go_ret;exact⟨ZG M,aj⟩
 go_wp2_with fail;refine(h6 _).mono ?_;rintro e w9 ⟨rfl,rfl⟩;cases b6
 case false=>
  go_wp2;go_ret;exact⟨ZG M,aj⟩
 go_wp2_with fail;refine(h7 _).mono ?_;rintro e w9 ⟨rfl,rfl⟩;go_wp2;go_ret;exact⟨ZG (by simp[*]),aj⟩
theorem jm9(r:ZQ)(w:World)(ok:r.ok)(hz:r.on.size<=1048576):
  C 69 #[r.v] w λe w'=>e=V (.bool (BF r))/\Bw w w':=by
 obtain⟨name,lo,hi,pU,on,at_,of,YX,ZR⟩:=r;have⟨k1,k2,k3,k4⟩:=ok;simp only[ZQ.v,BF]at *;have h1:=λw=>jbu name w k1
 have h2:=λw=>jna lo w
 have h3:=λw=>jau hi lo 9999 w
 have h8:=λw=>jau pU 1 12 w
 have h4:=λw=>jh7 on w hz
 have h9:=λw=>jau at_ 0 604800 w
 have h5:=λw=>jku of w
 have h6:=λw=>jgr YX w
 have h7:=λw=>jjy ZR w k4
 generalize BH name=b1 at *;generalize ZX lo 1 9999=b2 at *;generalize ZX hi lo 9999=b3 at *;generalize ZX pU 1 12=b8 at *;generalize onB on=b4 at *;generalize ZX at_ 0 604800=b9 at *;generalize ofB of=b5 at *;generalize ZX YX (-7200) 7200=b6 at *;generalize ltB ZR=b7 at *;have ag:=λo=>ZA w o
 unfold C;go_in;go_wp2_with fail;refine(h1 _).mono ?_;rintro e w9 ⟨rfl,rfl⟩;cases b1
 case false=>
  go_wp2;go_ret;exact⟨ZG M,(ag _)⟩
 go_wp2_with fail;refine(h2 _).mono ?_;rintro e w9 ⟨rfl,rfl⟩;cases b2
 case false=>
  go_wp2;go_ret;exact⟨ZG M,(ag _)⟩
 go_wp2_with fail;refine(h3 _).mono ?_;rintro e w9 ⟨rfl,rfl⟩;cases b3
 case false=>
  go_wp2;go_ret;exact⟨ZG M,(ag _)⟩
 go_wp2_with fail;refine(h8 _).mono ?_;rintro e w9 ⟨rfl,rfl⟩;cases b8
 case false=>
  go_wp2;go_ret;exact⟨ZG M,(ag _)⟩
 go_wp2_with fail;refine(h4 _).mono ?_;rintro e w1 ⟨rfl,hb1⟩;have⟨hc,_⟩:=Z4 hb1;have hlt:w.heap.size<w1.heap.size:=by have:=hb1.size;simp at this;omega
 have aj:=(ag _).trans (hb1.mono M);cases b4
 case false=>
  go_wp2;go_ret;exact⟨ZG M,aj⟩
 go_wp2_with fail;refine(h9 _).mono ?_;rintro e w9 ⟨rfl,rfl⟩;cases b9
 case false=>
  go_wp2;go_ret;exact⟨ZG M,aj⟩
 go_wp2_with fail;refine(h5 _).mono ?_;rintro e w9 ⟨rfl,rfl⟩;cases b5
 case false=>
  go_wp2;go_ret;exact⟨ZG M,aj⟩
 go_wp2_with fail;refine(h6 _).mono ?_;rintro e w9 ⟨rfl,rfl⟩;cases b6
 case false=>
  go_wp2;go_ret;exact⟨ZG M,aj⟩
 go_wp2_with fail;refine(h7 _).mono ?_;rintro e w9 ⟨rfl,rfl⟩;go_wp2;go_ret;exact⟨ZG (by simp[*]),aj⟩
theorem jkc(r:ZQ)(w:World)(hE:Zx w)(ok:r.ok)(hz:r.on.size<=1048576):
  C 121 #[r.v] w λe w'=>e=V (.bool (BF r))/\Bw w w':=by
 rw[<- jvk];exact ji7 r w hE ok hz
def fbB(c:Int):Bool:=vab c || (vaa c || (c==43 || (c==45 || (c==37 || c==47))))
def vap(s:ByteArray):Nat->Int
 |0=>0
 |k+1=>vap s k+(if Z0 s k=47 then 1 else 0)
theorem jsx(s:ByteArray)(k:Nat):0<=vap s k/\vap s k<=k:=by
 induction k with
 |zero=>simp[vap]
 |succ k ih=>simp only[vap];split<;>omega
def va0(s:ByteArray):Bool:=decide (1<=s.size/\s.size<=12/\vap s s.size<=1/\∀i,i<s.size->fbB (Z0 s i)=true)
theorem jk8(h:¬(1<=s.size/\s.size<=12/\vap s s.size<=1)):va0 s=false:=dfe λhn=>h ⟨hn.1,hn.2.1,hn.2.2.1⟩
theorem jxa(hk:k<s.size)(h:fbB (Z0 s k)=false):va0 s=false:=dfe λhn=>by rw[hn.2.2.2 k hk]at h;cases h
theorem jw9(h1:1<=s.size)(h2:s.size<=12)(h3:vap s s.size<=1)(h:∀i,i<s.size->fbB (Z0 s i)=true):va0 s=true:=rT ⟨h1,h2,h3,h⟩
theorem jgd(c:Int)(w:World):
  C 225 #[.int .u8 c] w λe w'=>e=V (.bool (fbB c))/\w'=w:=by
 have hL:=λw=>jcq c w
 have hD:=λw=>jd8 c w
 unfold fbB;generalize vab c=b1 at *;generalize vaa c=b2 at *;unfold C;go_in;go_wp2_with fail;refine(hL _).mono ?_;rintro e w1 ⟨rfl,rfl⟩;cases b1
 case true=>
  go_wp2;go_ret;exact⟨ZG M,rfl⟩
 go_wp2_with fail;refine(hD _).mono ?_;rintro e w1 ⟨rfl,rfl⟩;cases b2
 case true=>
  go_wp2;go_ret;exact⟨ZG M,rfl⟩
 go_wp2
 all_goals go_ret
 all_goals exact⟨ZG (by first|(simp_all;done)|simp[Bool.or_assoc]),rfl⟩
theorem jll(s:ByteArray)(k:Nat)(hk:k<=s.size):vap s k=((s.data.toList.take k).count 47:Nat):=by
 have hz:s.data.toList.length=s.size:=by rw[Array.length_toList];rfl
 induction k with
 |zero=>simp[vap]
 |succ k ih=>
  have hlt:k<s.data.toList.length:=Q;have e:Z0 s k=(s.data.toList[k].toNat:Int):=by
   rw[<- jai s k Q];rfl
  rw[List.take_add_one,ZV hlt,List.count_append,vap,ih Q,e];by_cases h:s.data.toList[k]=47
  .rw[h];simp
  .have h2:¬(s.data.toList[k].toNat:Int)=47:=λhn=>h (by
    apply UInt8.toNat_inj.mp
    show s.data.toList[k].toNat=47
    omega)
   have hc:List.count 47 [s.data.toList[k]]=0:=List.count_eq_zero_of_not_mem (by simpa using λhn=>h hn.symm);rw[if_neg h2,Option.toList_some,hc];simp
theorem jpn(s:ByteArray):(Lib.countByte s.data.toList 47:Int)=vap s s.size:=by
 have hz:s.data.toList.length=s.size:=by rw[Array.length_toList];rfl
 rw[jll s s.size (ZD _),List.take_of_length_le Q];rfl
theorem jhi(s:ByteArray)(w:World)(hs:s.size<=maxLen):
  C 190 #[I s] w λe w'=>e=V (.bool (va0 s))/\w'=w:=by
 unfold maxLen at hs;by_cases h1:s.size<1
 .rw[jk8 Q]
  unfold C;go_in;go_wp2;go_ret;exact⟨rfl,rfl⟩
 by_cases h2:12<s.size
 .rw[jk8 Q]
  unfold C;go_in;go_wp2;go_ret;exact⟨rfl,rfl⟩
 have hC:=λw=>Tryz.strings_Count_one s 47 w
 rw[jpn]at hC;by_cases h3:1<vap s s.size
 .rw[jk8 Q]
  generalize vap s s.size=n at *;unfold C;go_in;go_wp2_with (go_at_call 224;refine(hC _).mono ?_;rintro e w' ⟨rfl,rfl⟩);go_ret;exact⟨rfl,rfl⟩
 have sc:Hid (vap s s.size<=1):=by simp only[Hid];omega
 generalize hn:vap s s.size=n at hC h3;unfold C;go_in;go_wp2_with (go_at_call 224;refine(hC _).mono ?_;rintro e w' ⟨rfl,rfl⟩);go_loop [19] (λi=>∃k:Nat,k<=s.size/\i=J k/\Hid (∀j,j<k->fbB (Z0 s j)=true)) (λi=>s.size-(intOf i).toNat)
 .exact⟨0,Q,rfl,vcd⟩
 ·
  obtain⟨k,hk,rfl,ak⟩:=hrel;by_cases hlt:k<s.size
  .have hB:=λw=>jgd (Z0 s k) w
   have e:=jai s k hlt;cases hb:fbB (Z0 s k)
   .have HB:Hid (va0 s=false):=jxa hlt hb
    rw[hb, <- e]at hB;clear hb e;go_wp2_with (go_at_call 225;refine(hB _).mono ?_;rintro e w' ⟨rfl,rfl⟩);go_ret;exact⟨ZG HB.out.symm,rfl⟩
   .have HB:Hid (∀j,j<k+1->fbB (Z0 s j)=true):=jbi ak.out hb
    rw[hb, <- e]at hB;clear hb e;go_wp2_with (go_at_call 225;refine(hB _).mono ?_;rintro e w' ⟨rfl,rfl⟩);go_round
    .exact⟨k+1,Q,RP,HB⟩
    .simp[intOf];omega
  .have e:k=s.size:=Q
   subst e;have HB:Hid (va0 s=true):=jw9 Q Q sc.out ak.out;go_wp2;go_ret;exact⟨ZG HB.out.symm,rfl⟩
theorem jjz(s:ByteArray)(w:World)(hs:s.size<=maxLen):
  C 144 #[I s] w λe w'=>e=V (.bool (va0 s))/\w'=w:=by
 unfold maxLen at hs;unfold C;go_in;go_wp2;go_loop [3,4] (λx i=>∃k:Nat,k<=s.size/\i=J k/\x=J (vap s k)/\Hid (∀j,j<k->fbB (Z0 s j)=true)) (λ_ i=>s.size-(intOf i).toNat)
 .exact⟨0,Q,rfl,rfl,vcd⟩
 ·
  obtain⟨k,hk,rfl,rfl,ak⟩:=hrel;have sb:=jsx s k;by_cases hlt:k<s.size
  .have hL:=λw=>jcd (Z0 s k) w
   have hD:=λw=>jdi (Z0 s k) w
   have e:=jai s k hlt;by_cases lU:Z0 s k=47
   .have HN:Hid (vap s (k+1)=vap s k+1):=by simp only[Hid,vap];rw[if_pos lU]
    have HB:Hid (∀j,j<k+1->fbB (Z0 s j)=true):=jbi ak.out (by rw[lU];decide);have g:((s[k].toNat:Int)==47)=true:=by rw[e,lU];rfl
    clear e lU hL hD;go_wp2;go_round
    .exact⟨k+1,Q,RP,by rw[HN.out],HB⟩
    .simp[intOf];omega
   .have HN:Hid (vap s (k+1)=vap s k):=by simp only[Hid,vap];rw[if_neg lU];omega
    have g:((s[k].toNat:Int)==47)=false:=by rw[e];simpa using lU
    cases hb:fbB (Z0 s k)
    .have HB:Hid (va0 s=false):=jxa hlt hb
     unfold fbB at hb;simp only[Bool.or_eq_false_iff]at hb;have⟨q1,q2,q3,q4,q5,_⟩:=hb;rw[q1, <- e]at hL;rw[q2, <- e]at hD;rw[<- e]at q3 q4 q5;have PJ:((s[k].toNat:Int) != 43)=true:=by simpa using q3
     have PK:((s[k].toNat:Int) != 45)=true:=by simpa using q4
     have PL:((s[k].toNat:Int) != 37)=true:=by simpa using q5
     clear e lU q1 q2 q3 q4 q5;go_wp2_with (first|(go_at_call 97;refine(hL _).mono ?_;rintro e w' ⟨rfl,rfl⟩)|(go_at_call 98;refine(hD _).mono ?_;rintro e w' ⟨rfl,rfl⟩));go_ret;exact⟨ZG HB.out.symm,rfl⟩
    .have HB:Hid (∀j,j<k+1->fbB (Z0 s j)=true):=jbi ak.out hb
     have hc:vab (Z0 s k)=true\/(vab (Z0 s k)=false/\vaa (Z0 s k)=true)\/(vab (Z0 s k)=false/\vaa (Z0 s k)=false/\Z0 s k=43)\/(vab (Z0 s k)=false/\vaa (Z0 s k)=false/\Z0 s k=45)\/(vab (Z0 s k)=false/\vaa (Z0 s k)=false/\Z0 s k=37):=by
      unfold fbB at hb;cases q1:vab (Z0 s k)
      .cases q2:vaa (Z0 s k)
       .rw[q1,q2]at hb
        simp at hb;rcases hb with h|h|h|h
        .exact .inr (.inr (.inl ⟨rfl,rfl,h⟩))
        .exact .inr (.inr (.inr (.inl ⟨rfl,rfl,h⟩)))
        .exact .inr (.inr (.inr (.inr ⟨rfl,rfl,h⟩)))
        .exact absurd h lU
       .exact .inr (.inl ⟨rfl,rfl⟩)
      .exact .inl rfl
     clear hb lU;rcases hc with q1|⟨q1,q2⟩|⟨q1,q2,q3⟩|⟨q1,q2,q3⟩|⟨q1,q2,q3⟩
     .rw[q1, <- e]at hL
      clear e q1 hD;go_wp2_with (go_at_call 97;refine(hL _).mono ?_;rintro e w' ⟨rfl,rfl⟩);go_round
      .exact⟨k+1,Q,RP,by rw[HN.out],HB⟩
      .simp[intOf];omega
     all_goals
      rw[q1, <- e]at hL;rw[q2, <- e]at hD
     .clear e q1 q2
      go_wp2_with (first|(go_at_call 97;refine(hL _).mono ?_;rintro e w' ⟨rfl,rfl⟩)|(go_at_call 98;refine(hD _).mono ?_;rintro e w' ⟨rfl,rfl⟩));go_round
      .exact⟨k+1,Q,RP,by rw[HN.out],HB⟩
      .simp[intOf];omega
     .have t1:((s[k].toNat:Int) != 43)=false:=by rw[e,q3];rfl
      clear e q1 q2 q3;go_wp2_with (first|(go_at_call 97;refine(hL _).mono ?_;rintro e w' ⟨rfl,rfl⟩)|(go_at_call 98;refine(hD _).mono ?_;rintro e w' ⟨rfl,rfl⟩));go_round
      .exact⟨k+1,Q,RP,by rw[HN.out],HB⟩
      .simp[intOf];omega
     .have t1:((s[k].toNat:Int) != 43)=true:=by rw[e,q3];rfl
      have t2:((s[k].toNat:Int) != 45)=false:=by rw[e,q3];rfl
      clear e q1 q2 q3;go_wp2_with (first|(go_at_call 97;refine(hL _).mono ?_;rintro e w' ⟨rfl,rfl⟩)|(go_at_call 98;refine(hD _).mono ?_;rintro e w' ⟨rfl,rfl⟩));go_round
      .exact⟨k+1,Q,RP,by rw[HN.out],HB⟩
      .simp[intOf];omega
     .have t1:((s[k].toNat:Int) != 43)=true:=by rw[e,q3];rfl
      have t2:((s[k].toNat:Int) != 45)=true:=by rw[e,q3];rfl
      have t3:((s[k].toNat:Int) != 37)=false:=by rw[e,q3];rfl
      clear e q1 q2 q3;go_wp2_with (first|(go_at_call 97;refine(hL _).mono ?_;rintro e w' ⟨rfl,rfl⟩)|(go_at_call 98;refine(hD _).mono ?_;rintro e w' ⟨rfl,rfl⟩));go_round
      .exact⟨k+1,Q,RP,by rw[HN.out],HB⟩
      .simp[intOf];omega
  .have e:k=s.size:=Q
   subst e;by_cases h1:1<=s.size
   .by_cases h2:s.size<=12
    .by_cases h3:vap s s.size<=1
     .have HB:Hid (va0 s=true):=jw9 h1 h2 h3 ak.out
      go_wp2;go_ret;exact⟨ZG HB.out.symm,rfl⟩
     .have HB:Hid (va0 s=false):=jk8 Q
      go_wp2;go_ret;exact⟨ZG HB.out.symm,rfl⟩
    .have HB:Hid (va0 s=false):=jk8 Q
     go_wp2;go_ret;exact⟨ZG HB.out.symm,rfl⟩
   .have HB:Hid (va0 s=false):=jk8 Q
    go_wp2;go_ret;exact⟨ZG HB.out.symm,rfl⟩
def erB(e:ZH):Bool:=if e.Vv.toList.isEmpty=true then ZX e.YX (-7200) 7200 else BH e.Vv&&decide (e.YX=0)
theorem jfw(e:ZH)(w:World)(ok:e.ok):
  C 189 #[e.v] w λx w'=>x=V (.bool (erB e))/\Bw w w':=by
 obtain⟨Zq,Vv,YX,mr,ZO,of⟩:=e;have⟨k1,k2,k3⟩:=ok;simp only[ZH.v,erB]at *;have h1:=λw=>je2 YX w
 have h2:=λw=>ja7 Vv w k1
 generalize ZX YX (-7200) 7200=b1 at *;generalize BH Vv=b2 at *;cases he:Vv.toList.isEmpty
 .simp only[Bool.false_eq_true,if_false]
  unfold C;go_in;go_wp2_with fail;refine(h2 _).mono ?_;rintro e w1 ⟨rfl,rfl⟩;cases b2
  .go_wp2
   go_ret;exact⟨ZG M,ZA _ _⟩
  .go_wp2
   go_ret;exact⟨ZG (by simp;rfl),ZA _ _⟩
 .simp only[if_true]
  unfold C;go_in;go_wp2_with fail;refine(h1 _).mono ?_;rintro e w1 ⟨rfl,rfl⟩;go_wp2;go_ret;exact⟨rfl,ZA _ _⟩
def vaZ(e:ZH):Bool:=decide (-86400<=e.Zq)&&(decide (e.Zq<=86400)&&(erB e&&(va0 e.mr&&(decide (-62135596800<=e.ZO)&&(decide (e.ZO<=253402300799)&&ofB e.of)))))
theorem jg1(n:Int)(w:World):
  C 94 #[J n] w λe w'=>e=V (.bool (ZX n (-62135596800) 253402300799))/\w'=w:=by
 by_cases h: -62135596800<=n
 .unfold C;go_in
  go_wp2;go_ret;exact⟨ZG (by unfold ZX;simp[h]),rfl⟩
 .unfold C;go_in
  go_wp2;go_ret;exact⟨ZG (jj8 Q).symm,rfl⟩
theorem jmd(e:ZH)(w:World)(ok:e.ok):
  C 155 #[e.v] w λx w'=>x=V (.bool (vaZ e))/\Bw w w':=by
 have h1:=λw=>jfw e w ok
 unfold vaZ;generalize erB e=b1 at *;obtain⟨Zq,Vv,YX,mr,ZO,of⟩:=e;have⟨k1,k2,k3⟩:=ok;simp only[ZH.v]at *;have h2:=λw=>jhi mr w k2
 have h3:=λw=>jgz of w
 have h4:=λw=>jg1 ZO w
 generalize va0 mr=b2 at *;generalize ofB of=b3 at *;have ag:=λo=>ZA w o
 unfold C;go_in;by_cases g1: -86400<=Zq
 case neg=>
  go_wp2;go_ret;exact⟨ZG (by simp;intros;omega),ag _⟩
 by_cases g2:Zq<=86400
 case neg=>
  go_wp2;go_ret;exact⟨ZG (by simp;intros;omega),ag _⟩
 go_wp2_with fail;refine(h1 _).mono ?_;rintro e w1 ⟨rfl,hb1⟩;have⟨hc,_⟩:=Z4 hb1;have hlt:w.heap.size<w1.heap.size:=by have:=hb1.size;simp at this;omega
 have aj:=(ag _).trans (hb1.mono M);cases b1
 case false=>
  go_wp2;go_ret;exact⟨ZG M,aj⟩
 go_wp2_with fail;refine(h2 _).mono ?_;rintro e w9 ⟨rfl,rfl⟩;cases b2
 case false=>
  go_wp2;go_ret;exact⟨ZG M,aj⟩
 by_cases xF: -62135596800<=ZO/\ZO<=253402300799
 case neg=>
  rw[jj8 xF]at h4;go_wp2_with fail;refine(h4 _).mono ?_;rintro e w8 ⟨rfl,rfl⟩;go_wp2;go_ret;exact⟨ZG (by simp;intros;omega),aj⟩
 rw[jma xF.1 xF.2]at h4;have⟨g3,g4⟩:=xF;go_wp2_with fail;refine(h4 _).mono ?_;rintro e w8 ⟨rfl,rfl⟩;go_wp2_with fail;refine(h3 _).mono ?_;rintro e w9 ⟨rfl,rfl⟩;go_wp2;go_ret;exact⟨ZG (by simp[*]),aj⟩
def jes(l:vH):Bool:=BH l.vR&&BH l.name
theorem jke(l:vH)(w:World)(ok:l.ok):
  C 125 #[l.v] w λx w'=>x=V (.bool (jes l))/\Bw w w':=by
 obtain⟨vR,name⟩:=l;have⟨k1,k2⟩:=ok;simp only[vH.v,jes]at *;have h1:=λw=>ja7 vR w k1
 have h2:=λw=>ja7 name w k2
 generalize BH vR=b1 at *;generalize BH name=b2 at *;unfold C;go_in;go_wp2_with fail;refine(h1 _).mono ?_;rintro e w1 ⟨rfl,rfl⟩;cases b1
 case false=>
  go_wp2;go_ret;exact⟨ZG M,ZA _ _⟩
 go_wp2_with fail;refine(h2 _).mono ?_;rintro e w1 ⟨rfl,rfl⟩;go_wp2;go_ret;exact⟨ZG M,ZA _ _⟩
theorem jg5{α:Type}{l:List α}{p:α->Bool}{x:α}(hk:l[k]? =some x)(h:p x=false):l.all p=false:=by
 rw[List.all_eq_false];exact⟨x,ui hk,by simp[h]⟩
theorem jed{α:Type}{l:List α}{p:α->Bool}(h:∀j,j<l.length->∀x,l[j]? =some x->p x=true):l.all p=true:=by
 rw[List.all_eq_true];intro x hx;have⟨j,hj⟩:=lgo hx;exact h j (pO hj).1 x hj
theorem jop(l:List ZQ)(a:Option Addr)(cap:Nat)(w:World)(hE:Zx w)(hA:Za w a 9 (l.map ZQ.cs))(lH:∀r∈l,r.ok)(hz:∀r∈l,r.on.size<=1048576)(hl:l.length<=1048576):
  C 120 #[U a l.length cap,.func (.func 121) #[] #[]] w λe w'=>e=V (.bool (l.all BF))/\Bw w w':=by
 unfold C;go_in;go_wp2;go_loopw [9] (λi wr=>∃k:Nat,k<=l.length/\i=J k/\Hid (∀j,j<k->∀x,l[j]? =some x->BF x=true)/\Bw w wr) (λi _=>l.length-(intOf i).toNat)
 .exact⟨0,Q,rfl,λj hj=>Q,ZU _ _⟩
 ·
  obtain⟨k,hk,rfl,ak,hB⟩:=hrel;by_cases hlt:k<l.length
  .have⟨r,hr⟩:=DV hlt
   have ap:(l.map ZQ.cs)[k]? =some r.cs:=by rw[Z8,hr];rfl
   obtain⟨b,o,rfl,hc⟩:=(hA.below hB).at (i:=k) ap;have ok:=lH r (ui hr);have hS:=λw (h:Zx w)=>jkc r w h ok (hz r (ui hr))
   have jx:=hE.of_below hB;have c0:wr.cell? (O b (o+k*9))=some (I r.name):=hc 0 _ rfl;have c1:=hc 1 _ rfl;have c2:=hc 2 _ rfl;have c3:=hc 3 _ rfl;have c4:=hc 4 _ rfl;have c5:=hc 5 _ rfl;have c6:=hc 6 _ rfl;have c7:=hc 7 _ rfl;have c8:=hc 8 _ rfl;clear hc;unfold ZQ.v at hS;cases hb:BF r
   .have HR:Hid (l.all BF=false):=jg5 hr hb
    rw[hb]at hS;clear hb;go_wp2_with fail;refine(hS _ (jx.alloc _)).mono ?_;rintro e w2 ⟨rfl,ac⟩;go_wp2;go_ret;exact⟨ZG HR.out.symm,(hB.alloc hB.size _).trans (ac.mono (by simp;have:=hB.size;omega))⟩
   .have HR:Hid (∀j,j<k+1->∀x,l[j]? =some x->BF x=true):=λj hj x hx=>by
     by_cases e:j=k
     .subst e;rw[hr]at hx;obtain rfl:=Z9 hx;exact hb
     .exact ak.out j Q x hx
    rw[hb]at hS;clear hb;go_wp2_with fail;refine(hS _ (jx.alloc _)).mono ?_;rintro e w2 ⟨rfl,ac⟩;go_wp2;go_roundw
    .exact⟨k+1,Q,RP,HR,(hB.alloc hB.size _).trans (ac.mono (by simp;have:=hB.size;omega))⟩
    .simp[intOf];omega
  .have e:k=l.length:=Q
   subst e;have HR:Hid (l.all BF=true):=jed ak.out;go_wp2;go_ret;exact⟨ZG HR.out.symm,hB⟩
theorem jqt(l:List ZH)(a:Option Addr)(cap:Nat)(w:World)(hA:Za w a 6 (l.map ZH.cs))(lH:∀r∈l,r.ok)(hl:l.length<=1048576):
  C 154 #[U a l.length cap,.func (.func 155) #[] #[]] w λe w'=>e=V (.bool (l.all vaZ))/\Bw w w':=by
 unfold C;go_in;go_wp2;go_loopw [9] (λi wr=>∃k:Nat,k<=l.length/\i=J k/\Hid (∀j,j<k->∀x,l[j]? =some x->vaZ x=true)/\Bw w wr) (λi _=>l.length-(intOf i).toNat)
 .exact⟨0,Q,rfl,λj hj=>Q,ZU _ _⟩
 ·
  obtain⟨k,hk,rfl,ak,hB⟩:=hrel;by_cases hlt:k<l.length
  .have⟨r,hr⟩:=DV hlt
   have ap:(l.map ZH.cs)[k]? =some r.cs:=by rw[Z8,hr];rfl
   obtain⟨b,o,rfl,hc⟩:=(hA.below hB).at (i:=k) ap;have ok:=lH r (ui hr);have hS:=λw=>jmd r w ok
   have c0:wr.cell? (O b (o+k*6))=some (J r.Zq):=hc 0 _ rfl;have c1:=hc 1 _ rfl;have c2:=hc 2 _ rfl;have c3:=hc 3 _ rfl;have c4:=hc 4 _ rfl;have c5:=hc 5 _ rfl;clear hc;unfold ZH.v at hS;cases hb:vaZ r
   .have HR:Hid (l.all vaZ=false):=jg5 hr hb
    rw[hb]at hS;clear hb;go_wp2_with fail;refine(hS _).mono ?_;rintro e w2 ⟨rfl,ac⟩;go_wp2;go_ret;exact⟨ZG HR.out.symm,(hB.alloc hB.size _).trans (ac.mono (by simp;have:=hB.size;omega))⟩
   .have HR:Hid (∀j,j<k+1->∀x,l[j]? =some x->vaZ x=true):=λj hj x hx=>by
     by_cases e:j=k
     .subst e;rw[hr]at hx;obtain rfl:=Z9 hx;exact hb
     .exact ak.out j Q x hx
    rw[hb]at hS;clear hb;go_wp2_with fail;refine(hS _).mono ?_;rintro e w2 ⟨rfl,ac⟩;go_wp2;go_roundw
    .exact⟨k+1,Q,RP,HR,(hB.alloc hB.size _).trans (ac.mono (by simp;have:=hB.size;omega))⟩
    .simp[intOf];omega
  .have e:k=l.length:=Q
   subst e;have HR:Hid (l.all vaZ=true):=jed ak.out;go_wp2;go_ret;exact⟨ZG HR.out.symm,hB⟩
theorem joq(l:List vH)(a:Option Addr)(cap:Nat)(w:World)(hA:Za w a 2 (l.map vH.cs))(lH:∀r∈l,r.ok)(hl:l.length<=1048576):
  C 124 #[U a l.length cap,.func (.func 125) #[] #[]] w λe w'=>e=V (.bool (l.all jes))/\Bw w w':=by
 unfold C;go_in;go_wp2;go_loopw [9] (λi wr=>∃k:Nat,k<=l.length/\i=J k/\Hid (∀j,j<k->∀x,l[j]? =some x->jes x=true)/\Bw w wr) (λi _=>l.length-(intOf i).toNat)
 .exact⟨0,Q,rfl,λj hj=>Q,ZU _ _⟩
 ·
  obtain⟨k,hk,rfl,ak,hB⟩:=hrel;by_cases hlt:k<l.length
  .have⟨r,hr⟩:=DV hlt
   have ap:(l.map vH.cs)[k]? =some r.cs:=by rw[Z8,hr];rfl
   obtain⟨b,o,rfl,hc⟩:=(hA.below hB).at (i:=k) ap;have ok:=lH r (ui hr);have hS:=λw=>jke r w ok
   have c0:wr.cell? (O b (o+k*2))=some (I r.vR):=hc 0 _ rfl;have c1:=hc 1 _ rfl;clear hc;unfold vH.v at hS;cases hb:jes r
   .have HR:Hid (l.all jes=false):=jg5 hr hb
    rw[hb]at hS;clear hb;go_wp2_with fail;refine(hS _).mono ?_;rintro e w2 ⟨rfl,ac⟩;go_wp2;go_ret;exact⟨ZG HR.out.symm,(hB.alloc hB.size _).trans (ac.mono (by simp;have:=hB.size;omega))⟩
   .have HR:Hid (∀j,j<k+1->∀x,l[j]? =some x->jes x=true):=λj hj x hx=>by
     by_cases e:j=k
     .subst e;rw[hr]at hx;obtain rfl:=Z9 hx;exact hb
     .exact ak.out j Q x hx
    rw[hb]at hS;clear hb;go_wp2_with fail;refine(hS _).mono ?_;rintro e w2 ⟨rfl,ac⟩;go_wp2;go_roundw
    .exact⟨k+1,Q,RP,HR,(hB.alloc hB.size _).trans (ac.mono (by simp;have:=hB.size;omega))⟩
    .simp[intOf];omega
  .have e:k=l.length:=Q
   subst e;have HR:Hid (l.all jes=true):=jed ak.out;go_wp2;go_ret;exact⟨ZG HR.out.symm,hB⟩
def upB:List ZH->Bool
 |[]=>true
 |[_]=>true
 |x::y::l=>decide (x.ZO<y.ZO)&&upB (y::l)
theorem j20:∀{i:Nat} {x y:ZH},es[i]? =some x->es[i+1]? =some y->¬x.ZO<y.ZO->upB es=false:=by
 induction es with
 |nil=>intro i x y h;simp at h
 | cons a l ih=>
  intro i x y hx hy hn
  match l,i with
  |[],_=>simp at hy
  |b::l,0=>
   simp at hx hy;subst hx hy;simp[upB,hn]
  |b::l,i+1=>
   have:=ih (i:=i) (x:=x) (y:=y) (by simpa using hx) (by simpa using hy) hn;simp only[upB,this,Bool.and_false]
theorem j0u(h:∀i x y,es[i]? =some x->es[i+1]? =some y->x.ZO<y.ZO):upB es=true:=by
 induction es with
 |nil=>rfl
 | cons a l ih=>
  match l with
  |[]=>rfl
  |b::l=>
   have h0:=h 0 a b rfl rfl;have:=ih λi x y hx hy=>h (i+1) x y (by simpa using hx) (by simpa using hy)
   simp only[upB,this,rT h0,Bool.and_true]
def vco(es:List ZH):Bool:=match es[es.length-1]? with
 |some e=>(e.ZO==253402300799)&&(e.of.toList==[119])
 |none=>false
def MY(z:pE):Bool:=BH z.name&&(decide (1<=z.ZC.length/\z.ZC.length<=8)&&(z.ZC.all vaZ&&(upB z.ZC&&vco z.ZC)))
theorem jx7(h:BH z.name=false):MY z=false:=by unfold MY;rw[h];rfl
theorem jq9(h:¬(1<=z.ZC.length/\z.ZC.length<=8)):MY z=false:=by unfold MY;rw[dfe h];simp
theorem jx6(h:z.ZC.all vaZ=false):MY z=false:=by unfold MY;rw[h];simp
theorem jx5(h:upB z.ZC=false):MY z=false:=by unfold MY;rw[h];simp
theorem jx2(h1:BH z.name=true)(h2:1<=z.ZC.length/\z.ZC.length<=8)(h3:z.ZC.all vaZ=true)(h4:upB z.ZC=true):MY z=vco z.ZC:=by unfold MY;rw[h1,rT h2,h3,h4];simp
theorem jj9(z:pE)(v:Value)(w:World)(hv:Jf w v z.ZC)(hm:z.ok):
  C 123 #[.agg #[I z.name,v]] w λe w'=>e=V (.bool (MY z))/\Bw w w':=by
 obtain⟨a,cap,rfl,hA⟩:=hv;have⟨m1,m2,m3⟩:=hm;have h1:=λw=>ja7 z.name w m1
 have ag:=λo=>ZA w o
 unfold maxLen at m2;cases hn:BH z.name
 .rw[jx7 hn]
  rw[hn]at h1;generalize z.name=nm at *;clear hn;unfold C;go_in;go_wp2_with (go_at_call 93;refine(h1 _).mono ?_;rintro e w' ⟨rfl,rfl⟩);go_ret;exact⟨rfl,ag _⟩
 rw[hn]at h1;by_cases rv:z.ZC.length<1
 .rw[jq9 Q]
  unfold C;go_in;go_wp2_with (go_at_call 93;refine(h1 _).mono ?_;rintro e w' ⟨rfl,rfl⟩);go_ret;exact⟨rfl,ag _⟩
 by_cases G3:8<z.ZC.length
 .rw[jq9 Q]
  unfold C;go_in;go_wp2_with (go_at_call 93;refine(h1 _).mono ?_;rintro e w' ⟨rfl,rfl⟩);go_ret;exact⟨rfl,ag _⟩
 have h2:=λw (h:Za w a 6 (z.ZC.map ZH.cs))=>jqt z.ZC a cap w h m3 Q
 cases ha:z.ZC.all vaZ
 .rw[jx6 ha]
  rw[ha]at h2;clear ha;unfold C;go_in;go_wp2_with fail;refine(h1 _).mono ?_;rintro e w1 ⟨rfl,rfl⟩;go_wp2_with fail;refine(h2 _ (hA.below (ag _))).mono ?_;rintro e w1 ⟨rfl,hb1⟩;go_wp2;go_ret;exact⟨rfl,(ag _).trans (hb1.mono M)⟩
 rw[ha]at h2;have HZ:Hid (upB z.ZC=true->MY z=vco z.ZC):=λh=>jx2 hn Q ha h
 have HN:Hid (upB z.ZC=false->MY z=false):=λh=>jx5 h
 clear hn ha;generalize MY z=zb at *;unfold C;go_in;go_wp2_with fail;refine(h1 _).mono ?_;rintro e w1 ⟨rfl,rfl⟩;go_wp2_with fail;refine(h2 _ (hA.below (ag _))).mono ?_;rintro e w1 ⟨rfl,hb1⟩;have⟨hc,_⟩:=Z4 hb1;have aj:=(ag _).trans (hb1.mono M);have x1:w1.cell? (O w.heap.size 1)=some (U a z.ZC.length cap):=(hc _ _ M).trans RQ;have eL:=hA.below aj;clear hc hb1 h1 h2;obtain⟨n,au⟩:∃n,z.ZC.length=n+1:=⟨z.ZC.length-1,Q⟩;go_wp2;go_loopw [28] (λi wr=>∃k:Nat,k<=n/\i=J k/\Hid (∀j,j<k->∀x y,z.ZC[j]? =some x->z.ZC[j+1]? =some y->x.ZO<y.ZO)/\Bw w1 wr) (λi _=>n-(intOf i).toNat)
 .exact⟨0,Q,rfl,λj hj=>Q,ZU _ _⟩
 ·
  obtain⟨k,hk,rfl,ak,hB⟩:=hrel;have y1:wr.cell? (O w.heap.size 1)=some (U a z.ZC.length cap):=by rw[(Z4 hB).1 _ _ (ZI x1)];exact x1
  have dr:=Zp aj hB;by_cases hlt:k<n
  .obtain⟨r,hr⟩:∃r,z.ZC[k]? =some r:=⟨_,ZV Q⟩
   obtain⟨r2,dC⟩:∃r,z.ZC[k+1]? =some r:=⟨_,ZV Q⟩;obtain⟨b,o,rfl,hc⟩:=(eL.below hB).at (i:=k) (r:=r.cs) (by rw[Z8,hr];rfl);have⟨b',o',he,hd⟩:=(eL.below hB).at (i:=k+1) (r:=r2.cs) (by rw[Z8,dC];rfl);injection he with he
   injection he with e1 e2
   subst e1 e2;have c4:=hc 4 _ rfl;have d4:=hd 4 _ rfl;clear hc hd;by_cases hu:r.ZO<r2.ZO
   .have HR:Hid (∀j,j<k+1->∀x y,z.ZC[j]? =some x->z.ZC[j+1]? =some y->x.ZO<y.ZO):=λj hj x y hx hy=>by
     by_cases e:j=k
     .subst e;rw[hr]at hx;rw[dC]at hy;obtain rfl:=Z9 hx;obtain rfl:=Z9 hy;exact hu
     .exact ak.out j Q x y hx hy
    go_wp2_with fail;go_quiet (fail);go_wp2;go_roundw
    .exact⟨k+1,Q,RP,HR,below_drewN hB _⟩
    .simp[intOf];omega
   .have HR:Hid (zb=false):=HN.out (j20 hr dC hu)
    go_wp2_with fail;go_quiet (fail);go_wp2;go_ret;exact⟨ZG HR.out.symm,below_drewN dr _⟩
  .have e:k=n:=Q
   subst e;obtain⟨r,hr⟩:∃r,z.ZC[k]? =some r:=⟨_,ZV Q⟩;obtain⟨b,o,rfl,hc⟩:=(eL.below hB).at (i:=k) (r:=r.cs) (by rw[Z8,hr];rfl);have c4:=hc 4 _ rfl;have c5:=hc 5 _ rfl;clear hc;have HR:Hid (zb=((r.ZO==253402300799)&&(r.of.toList==[119]))):=by
    simp only[Hid];rw[HZ.out (j0u λi x y hx hy=>ak.out i (by have:=(pO hy).1;omega) x y hx hy)];unfold vco;rw[show z.ZC.length-1=k by omega,hr]
   cases g:(r.ZO==253402300799)
   .rw[g]at HR
    go_wp2;go_ret;exact⟨ZG HR.out.symm,dr⟩
   .rw[g]at HR
    go_wp2;go_ret;exact⟨ZG (by rw[HR.out];simp),dr⟩
theorem jmr{α:Type}{l:List α}{p:α->Bool}{x:α}(hk:l[k]? =some x)(h:p x=true):l.any p=true:=by
 rw[List.any_eq_true];exact⟨x,ui hk,h⟩
theorem jsl{α:Type}{l:List α}{p:α->Bool}(h:∀j,j<l.length->∀x,l[j]? =some x->p x=false):l.any p=false:=by
 rw[List.any_eq_false];intro x hx;have⟨j,hj⟩:=lgo hx;simp[h j (pO hj).1 x hj]
def hasB(rs:List ZQ)(s:ByteArray):Bool:=rs.any λx=>x.name.toList==s.toList
theorem jlt(r:ZW)(v:Value)(s:ByteArray)(w:World)(hv:Zd w v r)(hl:r.Vv.length<=1048576):
  C 143 #[v,I s] w λe w'=>e=V (.bool (hasB r.Vv s))/\Bw w w':=by
 obtain⟨a,b,c,ca,cb,cc,rfl,hA,_,_⟩:=hv.form;generalize r.Vv=l at *;generalize r.YU.length=zn at *;generalize r.YW.length=ln at *;clear hv;have hB:=ZA w (G #[U a l.length ca,U b zn cb,U c ln cc] 27);have eL:=hA.below hB;unfold hasB;unfold C;go_in;go_wp2;go_loop [5] (λi=>∃k:Nat,k<=l.length/\i=J k/\Hid (∀j,j<k->∀x,l[j]? =some x->(x.name.toList==s.toList)=false)) (λi=>l.length-(intOf i).toNat)
 .exact⟨0,Q,rfl,λj hj=>Q⟩
 ·
  obtain⟨k,hk,rfl,ak⟩:=hrel;by_cases hlt:k<l.length
  .have⟨x,hx⟩:=DV hlt
   obtain⟨b',o,rfl,hc⟩:=eL.at (i:=k) (r:=x.cs) (by rw[Z8,hx];rfl);have c0:(w.alloc (G #[U (some (O b' o)) l.length ca,U b zn cb,U c ln cc] 27)).cell? (O b' (o+k*9))=some (I x.name):=hc 0 _ rfl;clear hc;cases hb:(x.name.toList==s.toList)
   .have HR:Hid (∀j,j<k+1->∀x,l[j]? =some x->(x.name.toList==s.toList)=false):=λj hj y hy=>by
     by_cases e:j=k
     .subst e;rw[hx]at hy;obtain rfl:=Z9 hy;exact hb
     .exact ak.out j Q y hy
    generalize x.name=nm at *;go_wp2;go_round
    .exact⟨k+1,Q,RP,HR⟩
    .simp[intOf];omega
   .have HR:Hid ((l.any λx=>x.name.toList==s.toList)=true):=jmr hx hb
    generalize x.name=nm at *;go_wp2;go_ret;exact⟨ZG HR.out.symm,hB⟩
  .have e:k=l.length:=Q
   subst e;have HR:Hid ((l.any λx=>x.name.toList==s.toList)=false):=jsl ak.out;go_wp2;go_ret;exact⟨ZG HR.out.symm,hB⟩
theorem jon(l:List pE)(a:Option Addr)(cap:Nat)(w:World)(hA:Zo w a l)(lH:∀r∈l,r.ok)(hl:l.length<=1048576):
  C 122 #[U a l.length cap,.func (.func 123) #[] #[]] w λe w'=>e=V (.bool (l.all MY))/\Bw w w':=by
 unfold C;go_in;go_wp2;go_loopw [9] (λi wr=>∃k:Nat,k<=l.length/\i=J k/\Hid (∀j,j<k->∀x,l[j]? =some x->MY x=true)/\Bw w wr) (λi _=>l.length-(intOf i).toNat)
 .exact⟨0,Q,rfl,λj hj=>Q,ZU _ _⟩
 ·
  obtain⟨k,hk,rfl,ak,hB⟩:=hrel;by_cases hlt:k<l.length
  .have⟨r,hr⟩:=DV hlt
   obtain⟨b,o,rfl,c0,v,c1,hv⟩:=(hA.below hB).at hr;have ok:=lH r (ui hr);have hS:=λo=>jj9 r v (wr.alloc o) (hv.below (ZA _ o)) ok
   obtain⟨ae,ce,rfl,_⟩:=hv;generalize r.ZC.length=en at *;cases hb:MY r
   .have HR:Hid (l.all MY=false):=jg5 hr hb
    rw[hb]at hS;clear hb;go_wp2_with fail;refine(hS _).mono ?_;rintro e w2 ⟨rfl,ac⟩;go_wp2;go_ret;exact⟨ZG HR.out.symm,(hB.alloc hB.size _).trans (ac.mono (by simp;have:=hB.size;omega))⟩
   .have HR:Hid (∀j,j<k+1->∀x,l[j]? =some x->MY x=true):=λj hj x hx=>by
     by_cases e:j=k
     .subst e;rw[hr]at hx;obtain rfl:=Z9 hx;exact hb
     .exact ak.out j Q x hx
    rw[hb]at hS;clear hb;go_wp2_with fail;refine(hS _).mono ?_;rintro e w2 ⟨rfl,ac⟩;go_wp2;go_roundw
    .exact⟨k+1,Q,RP,HR,(hB.alloc hB.size _).trans (ac.mono (by simp;have:=hB.size;omega))⟩
    .simp[intOf];omega
  .have e:k=l.length:=Q
   subst e;have HR:Hid (l.all MY=true):=jed ak.out;go_wp2;go_ret;exact⟨ZG HR.out.symm,hB⟩
def vbz(rs:List ZQ)(e:ZH):Bool:=(e.Vv.toList.isEmpty || (decide (e.YX=0)&&hasB rs e.Vv))&&(ZX e.Zq (-86400) 86400&&(ZX e.YX (-7200) 7200&&(va0 e.mr&&(ZX e.ZO (-62135596800) 253402300799&&ofB e.of))))
theorem jlu(n:Int)(w:World):
  C 61 #[J n] w λe w'=>e=V (.bool (ZX n (-62135596800) 253402300799))/\w'=w:=by
 unfold C;go_in;go_wp2_with (go_at_call 31;refine(jau _ _ _ _).mono ?_;rintro e w' ⟨rfl,rfl⟩);go_ret;exact⟨rfl,rfl⟩
theorem jpr(r:ZW)(v:Value)(e:ZH)(w:World)(hv:Zd w v r)(ok:e.ok)(hl:r.Vv.length<=1048576):
  C 109 #[v,e.v] w λx w'=>x=V (.bool (vbz r.Vv e))/\Bw w w':=by
 have ag:=λo o2=>(ZA w o).alloc M o2
 have hR:=λs o o2=>jlt r v s ((w.alloc o).alloc o2) (hv.below (ag o o2)) hl
 obtain⟨a,b,c,ca,cb,cc,rfl,_,_,_⟩:=hv.form;generalize r.Vv.length=rn at *;generalize r.YU.length=zn at *;generalize r.YW.length=ln at *;clear hv;obtain⟨Zq,Vv,YX,mr,ZO,of⟩:=e;have⟨k1,k2,k3⟩:=ok;simp only[ZH.v,vbz]at *;have h1:=λw=>jau Zq (-86400) 86400 w
 have h2:=λw=>jgr YX w
 have h3:=λw=>jjz mr w k2
 have h4:=λw=>jlu ZO w
 have h5:=λw=>jku of w
 have dn:=hR Vv;clear hR;generalize hasB r.Vv Vv=q at *;generalize ZX Zq (-86400) 86400=b1 at *;generalize ZX YX (-7200) 7200=b2 at *;generalize va0 mr=b3 at *;generalize ZX ZO (-62135596800) 253402300799=b4 at *;generalize ofB of=b5 at *;cases he:Vv.toList.isEmpty
 .by_cases hs:YX=0
  .subst hs
   cases q
   .unfold C;go_in
    go_wp2_with fail;refine(dn _ _).mono ?_;rintro e w1 ⟨rfl,hb1⟩;go_wp2;go_ret;exact⟨ZG M,(ag _ _).trans (hb1.mono RO)⟩
   .unfold C;go_in
    go_wp2_with fail;refine(dn _ _).mono ?_;rintro e w1 ⟨rfl,hb1⟩;have⟨hc,_⟩:=Z4 hb1;have hlt:w.heap.size+1<w1.heap.size:=by have:=hb1.size;simp at this;omega
    have aj:=(ag _ _).trans (hb1.mono RO);go_wp2_with fail;refine(h1 _).mono ?_;rintro e w9 ⟨rfl,rfl⟩;cases b1
    case false=>
     go_wp2;go_ret;exact⟨ZG M,aj⟩
    go_wp2_with fail;refine(h2 _).mono ?_;rintro e w9 ⟨rfl,rfl⟩;cases b2
    case false=>
     go_wp2;go_ret;exact⟨ZG M,aj⟩
    go_wp2_with fail;refine(h3 _).mono ?_;rintro e w9 ⟨rfl,rfl⟩;cases b3
    case false=>
     go_wp2;go_ret;exact⟨ZG M,aj⟩
    go_wp2_with fail;refine(h4 _).mono ?_;rintro e w9 ⟨rfl,rfl⟩;cases b4
    case false=>
     go_wp2;go_ret;exact⟨ZG M,aj⟩
    go_wp2_with fail;refine(h5 _).mono ?_;rintro e w9 ⟨rfl,rfl⟩;go_wp2;go_ret;exact⟨ZG M,aj⟩
  .have Cw:(YX != 0)=true:=by simpa using hs
   unfold C;go_in;go_wp2;go_ret;exact⟨ZG (by simp[hs]),ag _ _⟩
 .unfold C;go_in
  go_wp2_with fail;refine(h1 _).mono ?_;rintro e w9 ⟨rfl,rfl⟩;cases b1
  case false=>
   go_wp2;go_ret;exact⟨ZG M,ag _ _⟩
  go_wp2_with fail;refine(h2 _).mono ?_;rintro e w9 ⟨rfl,rfl⟩;cases b2
  case false=>
   go_wp2;go_ret;exact⟨ZG M,ag _ _⟩
  go_wp2_with fail;refine(h3 _).mono ?_;rintro e w9 ⟨rfl,rfl⟩;cases b3
  case false=>
   go_wp2;go_ret;exact⟨ZG M,ag _ _⟩
  go_wp2_with fail;refine(h4 _).mono ?_;rintro e w9 ⟨rfl,rfl⟩;cases b4
  case false=>
   go_wp2;go_ret;exact⟨ZG M,ag _ _⟩
  go_wp2_with fail;refine(h5 _).mono ?_;rintro e w9 ⟨rfl,rfl⟩;go_wp2;go_ret;exact⟨ZG M,ag _ _⟩
def Jm(w:World)(a:Option Addr)(ss:List ByteArray):Prop:=
 ss=[]\/∃b o,a=some (O b o)/\∀i s,ss[i]? =some s->w.cell? (O b (o+i))=some (I s)
theorem Jm.at(h:Jm w a ss){i:Nat}{s:ByteArray}(hi:ss[i]? =some s):∃b o,a=some (O b o)/\w.cell? (O b (o+i))=some (I s):=by
 rcases h with rfl|⟨b,o,ha,hc⟩
 .simp at hi
 .exact⟨b,o,ha,hc i s hi⟩
theorem Jm.below(h:Jm w a ss)(hb:Bw w w'):Jm w' a ss:=by
 rcases h with h|⟨b,o,ha,hc⟩
 .exact .inl h
 .exact .inr ⟨b,o,ha,λi s hi=>by
   have:=hc i s hi
   rw[(Z4 hb).1 _ _ (ZI this)];exact this⟩
theorem Jm.take(h:Jm w a ss)(n:Nat):Jm w a (ss.take n):=by
 rcases h with rfl|⟨b,o,ha,hc⟩
 .exact .inl M
 .exact .inr ⟨b,o,ha,λi s hi=>hc i s (by rw[List.getElem?_take]at hi;split at hi<;>simp_all)⟩
def inB(ss:List ByteArray)(t:ByteArray):Bool:=ss.any λs=>s.toList==t.toList
theorem jkv(l:List ByteArray)(a:Option Addr)(cap:Nat)(t:ByteArray)(w:World)(hA:Jm w a l)(hl:l.length<=1048576):
  C 71 #[U a l.length cap,I t] w λe w'=>e=V (.bool (inB l t))/\w'=w:=by
 unfold inB;unfold C;go_in;go_wp2;go_loop [5] (λi=>∃k:Nat,k<=l.length/\i=J k/\Hid (∀j,j<k->∀x,l[j]? =some x->(x.toList==t.toList)=false)) (λi=>l.length-(intOf i).toNat)
 .exact⟨0,Q,rfl,λj hj=>Q⟩
 ·
  obtain⟨k,hk,rfl,ak⟩:=hrel;by_cases hlt:k<l.length
  .have⟨x,hx⟩:=DV hlt
   obtain⟨b,o,rfl,c0⟩:=hA.at hx;cases hb:(x.toList==t.toList)
   .have HR:Hid (∀j,j<k+1->∀x,l[j]? =some x->(x.toList==t.toList)=false):=λj hj y hy=>by
     by_cases e:j=k
     .subst e;rw[hx]at hy;obtain rfl:=Z9 hy;exact hb
     .exact ak.out j Q y hy
    go_wp2;go_round
    .exact⟨k+1,Q,RP,HR⟩
    .simp[intOf];omega
   .have HR:Hid ((l.any λx=>x.toList==t.toList)=true):=jmr hx hb
    go_wp2;go_ret;exact⟨ZG HR.out.symm,rfl⟩
  .have e:k=l.length:=Q
   subst e;have HR:Hid ((l.any λx=>x.toList==t.toList)=false):=jsl ak.out;go_wp2;go_ret;exact⟨ZG HR.out.symm,rfl⟩
theorem jts(r:ZQ)(p:Nat)(s:ByteArray)(w:World)(hp:w.cell? (O p 1)=some (I s)):
  C 158 #[r.v,.pointer (some (O p 0))] w λe w'=>e=V (.bool (r.name.toList==s.toList))/\Bw w w':=by
 have hlt:=ZI hp;have az:p≠w.heap.size:=by simp at hlt;omega
 obtain⟨name,lo,hi,pU,on,at_,of,YX,ZR⟩:=r;simp only[ZQ.v]at *;unfold C;go_in;go_wp2;go_ret;exact⟨rfl,ZA _ _⟩
theorem jkg(l:List ZQ)(a:Option Addr)(cap p:Nat)(s:ByteArray)(w:World)(hA:Za w a 9 (l.map ZQ.cs))(hl:l.length<=1048576)(hp:w.cell? (O p 1)=some (I s)):
  C 192 #[U a l.length cap,.func (.func 158) #[] #[.pointer (some (O p 0))]] w λe w'=>(∃n:Int,e=V (J n)/\decide (0<=n)=hasB l s)/\Bw w w':=by
 unfold hasB;unfold C;go_in;go_wp2;go_loopw [8] (λi wr=>∃k:Nat,k<=l.length/\i=J k/\Hid (∀j,j<k->∀x,l[j]? =some x->(x.name.toList==s.toList)=false)/\Bw w wr) (λi _=>l.length-(intOf i).toNat)
 .exact⟨0,Q,rfl,λj hj=>Q,ZU _ _⟩
 ·
  obtain⟨k,hk,rfl,ak,hB⟩:=hrel;by_cases hlt:k<l.length
  .have⟨r,hr⟩:=DV hlt
   obtain⟨b,o,rfl,hc⟩:=(hA.below hB).at (i:=k) (r:=r.cs) (by rw[Z8,hr];rfl);have c0:wr.cell? (O b (o+k*9))=some (I r.name):=hc 0 _ rfl;have c1:=hc 1 _ rfl;have c2:=hc 2 _ rfl;have c3:=hc 3 _ rfl;have c4:=hc 4 _ rfl;have c5:=hc 5 _ rfl;have c6:=hc 6 _ rfl;have c7:=hc 7 _ rfl;have c8:=hc 8 _ rfl;clear hc;have hS:=jts r p s wr (by rw[(Z4 hB).1 _ _ (ZI hp)];exact hp);unfold ZQ.v at hS;cases hb:(r.name.toList==s.toList)
   .have HR:Hid (∀j,j<k+1->∀x,l[j]? =some x->(x.name.toList==s.toList)=false):=λj hj x hx=>by
     by_cases e:j=k
     .subst e;rw[hr]at hx;obtain rfl:=Z9 hx;exact hb
     .exact ak.out j Q x hx
    rw[hb]at hS;clear hb;go_wp2_with fail;refine hS.mono ?_;rintro e w2 ⟨rfl,ac⟩;go_wp2;go_roundw
    .exact⟨k+1,Q,RP,HR,(Zp hB ac)⟩
    .simp[intOf];omega
   .have HR:Hid ((l.any λx=>x.name.toList==s.toList)=true):=jmr hr hb
    rw[hb]at hS;clear hb;go_wp2_with fail;refine hS.mono ?_;rintro e w2 ⟨rfl,ac⟩;go_wp2;go_ret;exact⟨⟨_,rfl,by rw[HR.out];simp⟩,(Zp hB ac)⟩
  .have e:k=l.length:=Q
   subst e;have HR:Hid ((l.any λx=>x.name.toList==s.toList)=false):=jsl ak.out;go_wp2;go_ret;exact⟨⟨_,rfl,by rw[HR.out];rfl⟩,hB⟩
theorem jgh(l:List ZQ)(a:Option Addr)(cap p:Nat)(s:ByteArray)(w:World)(hA:Za w a 9 (l.map ZQ.cs))(hl:l.length<=1048576)(hp:w.cell? (O p 1)=some (I s)):
  C 159 #[U a l.length cap,.func (.func 158) #[] #[.pointer (some (O p 0))]] w λe w'=>e=V (.bool (hasB l s))/\Bw w w':=by
 have hI:=jkg l a cap p s w hA hl hp;generalize hasB l s=q at *;unfold C;go_in;go_wp2_with fail;refine hI.mono ?_;rintro e w1 ⟨⟨n,rfl,hn⟩,hb⟩;go_wp2;go_ret;exact⟨ZG M,hb⟩
def vaE(l:List pE)(s:ByteArray):Bool:=l.any λx=>x.name.toList==s.toList
theorem jql(r:pE)(v:Value)(p:Nat)(s:ByteArray)(w:World)(hp:w.cell? (O p 0)=some (I s)):
  C 160 #[.agg #[I r.name,v],.pointer (some (O p 0))] w λe w'=>e=V (.bool (r.name.toList==s.toList))/\Bw w w':=by
 have hlt:=ZI hp;have az:p≠w.heap.size:=by simp at hlt;omega
 unfold C;go_in;go_wp2;go_ret;exact⟨rfl,ZA _ _⟩
theorem jkf(l:List pE)(a:Option Addr)(cap p:Nat)(s:ByteArray)(w:World)(hA:Zo w a l)(hl:l.length<=1048576)(hp:w.cell? (O p 0)=some (I s)):
  C 193 #[U a l.length cap,.func (.func 160) #[] #[.pointer (some (O p 0))]] w λe w'=>(∃n:Int,e=V (J n)/\decide (0<=n)=vaE l s)/\Bw w w':=by
 unfold vaE;unfold C;go_in;go_wp2;go_loopw [8] (λi wr=>∃k:Nat,k<=l.length/\i=J k/\Hid (∀j,j<k->∀x,l[j]? =some x->(x.name.toList==s.toList)=false)/\Bw w wr) (λi _=>l.length-(intOf i).toNat)
 .exact⟨0,Q,rfl,λj hj=>Q,ZU _ _⟩
 ·
  obtain⟨k,hk,rfl,ak,hB⟩:=hrel;by_cases hlt:k<l.length
  .have⟨r,hr⟩:=DV hlt
   obtain⟨b,o,rfl,c0,v,c1,hv⟩:=(hA.below hB).at hr;have hS:=jql r v p s wr (by rw[(Z4 hB).1 _ _ (ZI hp)];exact hp);obtain⟨ae,ce,rfl,_⟩:=hv;generalize r.ZC.length=en at *;cases hb:(r.name.toList==s.toList)
   .have HR:Hid (∀j,j<k+1->∀x,l[j]? =some x->(x.name.toList==s.toList)=false):=λj hj x hx=>by
     by_cases e:j=k
     .subst e;rw[hr]at hx;obtain rfl:=Z9 hx;exact hb
     .exact ak.out j Q x hx
    rw[hb]at hS;clear hb;go_wp2_with fail;refine hS.mono ?_;rintro e w2 ⟨rfl,ac⟩;go_wp2;go_roundw
    .exact⟨k+1,Q,RP,HR,(Zp hB ac)⟩
    .simp[intOf];omega
   .have HR:Hid ((l.any λx=>x.name.toList==s.toList)=true):=jmr hr hb
    rw[hb]at hS;clear hb;go_wp2_with fail;refine hS.mono ?_;rintro e w2 ⟨rfl,ac⟩;go_wp2;go_ret;exact⟨⟨_,rfl,by rw[HR.out];simp⟩,(Zp hB ac)⟩
  .have e:k=l.length:=Q
   subst e;have HR:Hid ((l.any λx=>x.name.toList==s.toList)=false):=jsl ak.out;go_wp2;go_ret;exact⟨⟨_,rfl,by rw[HR.out];rfl⟩,hB⟩
theorem jgg(l:List pE)(a:Option Addr)(cap p:Nat)(s:ByteArray)(w:World)(hA:Zo w a l)(hl:l.length<=1048576)(hp:w.cell? (O p 0)=some (I s)):
  C 161 #[U a l.length cap,.func (.func 160) #[] #[.pointer (some (O p 0))]] w λe w'=>e=V (.bool (vaE l s))/\Bw w w':=by
 have hI:=jkf l a cap p s w hA hl hp;generalize vaE l s=q at *;unfold C;go_in;go_wp2_with fail;refine hI.mono ?_;rintro e w1 ⟨⟨n,rfl,hn⟩,hb⟩;go_wp2;go_ret;exact⟨ZG M,hb⟩
theorem ji1(r:ZW)(v:Value)(w:World)(hv:Zd w v r)(hz:r.YU.length<=1048576)(hl:r.YW.length<=1048576):
  C 128 #[v] w λe w'=>e=V (.bool (r.YW.all λx=>vaE r.YU x.vR))/\Bw w w':=by
 obtain⟨a,b,c,ca,cb,cc,rfl,_,hZ,hA⟩:=hv.form;clear hv;generalize r.Vv.length=rn at *;generalize r.YW=l at *;generalize r.YU=zs at *;have ag:=ZA w (G #[U a rn ca,U b zs.length cb,U c l.length cc] 27);have eL:=hA.below ag;have j8:=hZ.below ag;have ai:(w.alloc (G #[U a rn ca,U b zs.length cb,U c l.length cc] 27)).cell? (O w.heap.size 1)=some (U b zs.length cb):=M;unfold C;go_in;go_wp2;generalize hW:(w.alloc (G #[U a rn ca,U b zs.length cb,U c l.length cc] 27))=W at *;go_loopw [9] (λi wr=>∃k:Nat,k<=l.length/\i=J k/\Hid (∀j,j<k->∀x,l[j]? =some x->vaE zs x.vR=true)/\Bw W wr) (λi _=>l.length-(intOf i).toNat)
 .exact⟨0,Q,rfl,λj hj=>Q,by subst hW;exact ZU _ _⟩
 ·
  obtain⟨k,hk,rfl,ak,hB⟩:=hrel;have hT:Bw w wr:=Zp ag hB;have ho:wr.cell? (O w.heap.size 1)=some (U b zs.length cb):=by rw[(Z4 hB).1 _ _ (ZI ai)];exact ai
  by_cases hlt:k<l.length
  .have⟨x,hx⟩:=DV hlt
   obtain⟨b',o,rfl,hc⟩:=(eL.below hB).at (i:=k) (r:=x.cs) (by rw[Z8,hx];rfl);have c0:wr.cell? (O b' (o+k*2))=some (I x.vR):=hc 0 _ rfl;have c1:=hc 1 _ rfl;clear hc;have rv:=ZI ho;have an:Bw W (wr.alloc (G #[I x.vR,I x.name] 122)):=hB.alloc hB.size _;have hS:=jgg zs b cb wr.heap.size x.vR (wr.alloc (G #[I x.vR,I x.name] 122)) (j8.below an) hz M;cases hb:vaE zs x.vR
   .have HR:Hid ((l.all λx=>vaE zs x.vR)=false):=jg5 hx hb
    rw[hb]at hS;clear hb;go_wp2_with fail;refine hS.mono ?_;rintro e w2 ⟨rfl,ac⟩;go_wp2;go_ret;exact⟨ZG HR.out.symm,ag.trans ((Zp an ac).mono ag.size)⟩
   .have HR:Hid (∀j,j<k+1->∀x,l[j]? =some x->vaE zs x.vR=true):=λj hj y hy=>by
     by_cases e:j=k
     .subst e;rw[hx]at hy;obtain rfl:=Z9 hy;exact hb
     .exact ak.out j Q y hy
    rw[hb]at hS;clear hb;go_wp2_with fail;refine hS.mono ?_;rintro e w2 ⟨rfl,ac⟩;go_wp2;go_roundw
    .exact⟨k+1,Q,RP,HR,(Zp an ac)⟩
    .simp[intOf];omega
  .have e:k=l.length:=Q
   subst e;have HR:Hid ((l.all λx=>vaE zs x.vR)=true):=jed ak.out;go_wp2;go_ret;exact⟨ZG HR.out.symm,hT⟩
def jb0(rs:List ZQ)(e:ZH):Bool:=e.Vv.toList.isEmpty || hasB rs e.Vv
theorem ji6(r:ZW)(v:Value)(w:World)(hv:Zd w v r)(hr:r.Vv.length<=1048576)(hz:r.YU.length<=1048576)(lH:∀x∈r.YU,x.ok):
  C 127 #[v] w λe w'=>e=V (.bool (r.YU.all λz=>z.ZC.all (jb0 r.Vv)))/\Bw w w':=by
 obtain⟨a,b,c,ca,cb,cc,rfl,hR,hA,_⟩:=hv.form;clear hv;generalize r.Vv=rs at *;generalize r.YW.length=ln at *;generalize r.YU=l at *;have ag:=ZA w (G #[U a rs.length ca,U b l.length cb,U c ln cc] 27);have eL:=hA.below ag;have dn:=hR.below ag;have ai:(w.alloc (G #[U a rs.length ca,U b l.length cb,U c ln cc] 27)).cell? (O w.heap.size 0)=some (U a rs.length ca):=M;unfold C;go_in;go_wp2;generalize hW:(w.alloc (G #[U a rs.length ca,U b l.length cb,U c ln cc] 27))=W at *;go_loopw [11] (λi wr=>∃k:Nat,k<=l.length/\i=J k/\Hid (∀j,j<k->∀x,l[j]? =some x->x.ZC.all (jb0 rs)=true)/\Bw W wr) (λi _=>l.length-(intOf i).toNat)
 .exact⟨0,Q,rfl,λj hj=>Q,by subst hW;exact ZU _ _⟩
 ·
  obtain⟨k,hk,rfl,ak,hB⟩:=hrel;have hT:Bw w wr:=Zp ag hB;by_cases hlt:k<l.length
  .have⟨x,hx⟩:=DV hlt
   obtain⟨b',o,rfl,c0,v,c1,hv⟩:=(eL.below hB).at hx;have ok:=(lH x (ui hx)).2.1;obtain⟨ae,ce,rfl,hE⟩:=hv;unfold maxLen at ok;obtain⟨nm,es⟩:=x;simp only at *;have an:Bw W (wr.alloc (G #[I nm,U ae es.length ce] 120)):=hB.alloc hB.size _;have pB:Za (wr.alloc (G #[I nm,U ae es.length ce] 120)) ae 6 (es.map ZH.cs):=hE.below (ZA _ _);go_wp2;generalize hV:(wr.alloc (G #[I nm,U ae es.length ce] 120))=vVV at *;obtain⟨wo,rfl⟩:=wL wr;go_loopw [18] (λi wr=>∃m:Nat,m<=es.length/\i=J m/\Hid (∀j,j<m->∀x,es[j]? =some x->jb0 rs x=true)/\Bw vVV wr) (λi _=>es.length-(intOf i).toNat)
   .exact⟨0,Q,rfl,λj hj=>Q,by subst hV;exact ZU _ _⟩
   ·
    obtain⟨m,hm,rfl,oq,hC⟩:=hrel;have nQ:Bw W wr:=Zp an hC;have ho:wr.cell? (O w.heap.size 0)=some (U a rs.length ca):=by rw[(Z4 nQ).1 _ _ (ZI ai)];exact ai
    by_cases hlt2:m<es.length
    .have⟨y,hy⟩:=DV hlt2
     obtain⟨b2,o2,rfl,hc⟩:=(pB.below hC).at (i:=m) (r:=y.cs) (by rw[Z8,hy];rfl);have d0:wr.cell? (O b2 (o2+m*6))=some (J y.Zq):=hc 0 _ rfl;have d1:=hc 1 _ rfl;have d2:=hc 2 _ rfl;have d3:=hc 3 _ rfl;have d4:=hc 4 _ rfl;have d5:=hc 5 _ rfl;clear hc;have rv:=ZI ho;have ax:Bw W (wr.alloc (G #[J y.Zq,I y.Vv,J y.YX,I y.mr,J y.ZO,I y.of] 154)):=nQ.alloc nQ.size _;have F7:Bw vVV (wr.alloc (G #[J y.Zq,I y.Vv,J y.YX,I y.mr,J y.ZO,I y.of] 154)):=hC.alloc hC.size _;have hS:=jgh rs a ca wr.heap.size y.Vv (wr.alloc (G #[J y.Zq,I y.Vv,J y.YX,I y.mr,J y.ZO,I y.of] 154)) (dn.below ax) hr M;have jl:jb0 rs y=true->Hid (∀j,j<m+1->∀x,es[j]? =some x->jb0 rs x=true):=λhb j hj z hz=>by
      by_cases e:j=m
      .subst e;rw[hy]at hz;obtain rfl:=Z9 hz;exact hb
      .exact oq.out j Q z hz
     have lF:jb0 rs y=false->Hid ((l.all λz=>z.ZC.all (jb0 rs))=false):=λhb=>jg5 hx (jg5 hy hb)
     unfold jb0 at jl lF;cases he:y.Vv.toList.isEmpty
     .cases hb:hasB rs y.Vv
      .have HR:=lF (by rw[he,hb];rfl)
       rw[hb]at hS;clear hb jl lF;go_wp2_with fail;refine hS.mono ?_;rintro e w2 ⟨rfl,ac⟩;go_wp2;go_ret;exact⟨ZG HR.out.symm,ag.trans ((Zp ax ac).mono ag.size)⟩
      .have HR:=jl (by rw[he,hb];rfl)
       rw[hb]at hS;clear hb jl lF;go_wp2_with fail;refine hS.mono ?_;rintro e w2 ⟨rfl,ac⟩;go_wp2;go_roundw
       .exact⟨m+1,Q,RP,HR,(Zp F7 ac)⟩
       .simp[intOf];omega
     .have HR:=jl (by rw[he];rfl)
      clear hS jl lF;go_wp2;go_roundw
      .exact⟨m+1,Q,RP,HR,F7⟩
      .simp[intOf];omega
    .have e:m=es.length:=Q
     subst e;have HR:Hid (∀j,j<k+1->∀x,l[j]? =some x->x.ZC.all (jb0 rs)=true):=λj hj z hz=>by
      by_cases e:j=k
      .subst e;rw[hx]at hz;obtain rfl:=Z9 hz;exact jed oq.out
      .exact ak.out j Q z hz
     go_wp2;go_roundw
     .exact⟨k+1,Q,RP,HR,nQ⟩
     .simp[intOf];omega
  .have e:k=l.length:=Q
   subst e;have HR:Hid ((l.all λz=>z.ZC.all (jb0 rs))=true):=jed ak.out;go_wp2;go_ret;exact⟨ZG HR.out.symm,hT⟩
