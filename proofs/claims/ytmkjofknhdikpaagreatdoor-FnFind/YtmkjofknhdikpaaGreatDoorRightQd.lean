import Derived.Test.YtmkjofknhdikpaaGreatDoorOnPd
import Derived.Test.YtmkjofknhdikpaaGreatDoorRelPd
set_option maxHeartbeats 0
set_option linter.unusedSimpArgs false
open Go.RowKit
namespace Go.Proofs.YtmkjofknhdikpaaGreatDoor
variable{s:ByteArray}{k:Nat}{w w':World}{es:List TX}{z:UE}{a:Option Addr}{ss:List ByteArray}
def Zu(s:ByteArray):Bool:=(s.toList==[119]) || ((s.toList==[115]) || (s.toList==[117]))
theorem jgz(s:ByteArray)(w:World):
  C 164 #[I s] w λe w'=>e=V (Z (Zu s))/\w'=w:=by
 unfold Zu;cases h1:(s.toList==[119])
 .cases h2:(s.toList==[115])
  .delta C;go_in
   go_wp2;go_ret;exact⟨TS M,rfl⟩
  .delta C;go_in
   go_wp2;go_ret;exact⟨TS M,rfl⟩
 .delta C;go_in
  go_wp2;go_ret;exact⟨TS M,rfl⟩
theorem jku(s:ByteArray)(w:World):
  C 95 #[I s] w λe w'=>e=V (Z (Zu s))/\w'=w:=by
 unfold Zu;cases h1:(s.toList==[119])
 .cases h2:(s.toList==[115])
  .delta C;go_in
   go_wp2;go_ret;exact⟨TS M,rfl⟩
  .delta C;go_in
   go_wp2;go_ret;exact⟨TS M,rfl⟩
 .delta C;go_in
  go_wp2;go_ret;exact⟨TS M,rfl⟩
theorem je2(n:Int)(w:World):
  C 165 #[J n] w λe w'=>e=V (Z (Uk n (-7200) 7200))/\w'=w:=by
 by_cases h: -7200<=n
 .delta C;go_in
  go_wp2;go_ret;exact⟨TS (by unfold Uk;simp[h]),rfl⟩
 .delta C;go_in
  go_wp2;go_ret;exact⟨TS (jj8 Q).symm,rfl⟩
theorem jgr(n:Int)(w:World):
  C 96 #[J n] w λe w'=>e=V (Z (Uk n (-7200) 7200))/\w'=w:=by
 delta C;go_in;go_wp2_with (go_at_call 25;refine(Yz _ _ _ _).mono ?_;rintro e w' ⟨rfl,rfl⟩);go_ret;exact⟨rfl,rfl⟩
theorem je0(n:Int)(w:World):
  C 162 #[J n] w λe w'=>e=V (Z (Uk n 1 9999))/\w'=w:=by
 by_cases h:1<=n
 .delta C;go_in
  go_wp2;go_ret;exact⟨TS (by unfold Uk;simp[h]),rfl⟩
 .delta C;go_in
  go_wp2;go_ret;exact⟨TS (jj8 Q).symm,rfl⟩
def YS(c:Int):Bool:=Wp c || (c==43 || c==45)
def XL(s:ByteArray):Bool:=decide (s.size<=6)&&(!(s.toList==[45])&&decide (∀i,i<s.size->YS (Ul s i)=true))
theorem j3i(h:6<s.size):XL s=false:=by unfold XL;rw[dfe Q];rfl
theorem j3h(h:(s.toList==[45])=true):XL s=false:=by unfold XL;rw[h];simp
theorem j07(hk:k<s.size)(h:YS (Ul s k)=false):XL s=false:=by
 unfold XL;have:decide (∀i,i<s.size->YS (Ul s i)=true)=false:=dfe λhn=>by rw[hn k hk]at h;cases h
 rw[this];simp
theorem j08(h:∀i,i<s.size->YS (Ul s i)=true):XL s=(decide (s.size<=6)&& !(s.toList==[45])):=by
 unfold XL;rw[Uy h];simp
theorem j3l{c:Int}(h:YS c=false):Wp c=false/\(c != 43)=true/\(c != 45)=true:=by
 unfold YS at h;simp at h;simpa using h
theorem jhf(s:ByteArray)(w:World)(hs:s.size<=maxLen):
  C 166 #[I s] w λe w'=>e=V (Z (XL s))/\w'=w:=by
 unfold maxLen at hs;by_cases h6:6<s.size
 .rw[j3i h6]
  delta C;go_in;go_wp2;go_ret;exact⟨rfl,rfl⟩
 cases hm:(s.toList==[45])
 .delta C;go_in
  go_wp2;go_loop [14] (λi=>∃k:Nat,k<=s.size/\i=J k/\Hid (∀j,j<k->YS (Ul s j)=true)) (λi=>s.size-(intOf i).toNat)
  .exact⟨0,Q,rfl,vaU⟩
  ·
   obtain⟨k,hk,rfl,ak⟩:=hrel;by_cases hlt:k<s.size
   .have hB:=λw=>jcq (Ul s k) w
    have e:=Wj s k hlt;cases hb:YS (Ul s k)
    .have HB:Hid (XL s=false):=j07 hlt hb
     have⟨g1,g2,g3⟩:=j3l hb;rw[g1, <- e]at hB;rw[<- e]at g2 g3;clear hb e g1;go_wp2_with (go_at_call 175;refine(hB _).mono ?_;rintro e w' ⟨rfl,rfl⟩);go_ret;exact⟨TS HB.out.symm,rfl⟩
    .have HB:Hid (∀j,j<k+1->YS (Ul s j)=true):=ZJ ak.out hb
     unfold YS at hb;cases g1:Wp (Ul s k)
     .rw[g1]at hb hB
      simp at hb;rw[<- e]at hB hb;by_cases g2:(s[k].toNat:Int)=43
      .have ke:((s[k].toNat:Int) != 43)=false:=by simp[g2]
       clear e g1 hb g2;go_wp2_with (go_at_call 175;refine(hB _).mono ?_;rintro e w' ⟨rfl,rfl⟩);go_round
       .exact⟨k+1,Q,Z7,HB⟩
       .simp[intOf];omega
      .have ke:((s[k].toNat:Int) != 43)=true:=by simpa using g2
       have J0:((s[k].toNat:Int) != 45)=false:=Z6;clear e g1 hb g2;go_wp2_with (go_at_call 175;refine(hB _).mono ?_;rintro e w' ⟨rfl,rfl⟩);go_round
       .exact⟨k+1,Q,Z7,HB⟩
       .simp[intOf];omega
     .rw[g1, <- e]at hB
      clear e g1 hb;go_wp2_with (go_at_call 175;refine(hB _).mono ?_;rintro e w' ⟨rfl,rfl⟩);go_round
      .exact⟨k+1,Q,Z7,HB⟩
      .simp[intOf];omega
   .have e:k=s.size:=Q
    subst e;have HB:Hid (XL s=true):=by
     simp only[Hid];rw[j08 ak.out,hm];simp;omega
    go_wp2;go_ret;exact⟨TS HB.out.symm,rfl⟩
 .rw[j3h hm]
  delta C;go_in;go_wp2;go_ret;exact⟨rfl,rfl⟩
theorem jjy(s:ByteArray)(w:World)(hs:s.size<=maxLen):
  C 97 #[I s] w λe w'=>e=V (Z (XL s))/\w'=w:=by
 unfold maxLen at hs;delta C;go_in;go_wp2;go_loop [3] (λi=>∃k:Nat,k<=s.size/\i=J k/\Hid (∀j,j<k->YS (Ul s j)=true)) (λi=>s.size-(intOf i).toNat)
 .exact⟨0,Q,rfl,vaU⟩
 ·
  obtain⟨k,hk,rfl,ak⟩:=hrel;by_cases hlt:k<s.size
  .have hB:=λw=>jcd (Ul s k) w
   have e:=Wj s k hlt;cases hb:YS (Ul s k)
   .have HB:Hid (XL s=false):=j07 hlt hb
    have⟨g1,g2,g3⟩:=j3l hb;rw[g1, <- e]at hB;rw[<- e]at g2 g3;clear hb e g1;go_wp2_with (go_at_call 99;refine(hB _).mono ?_;rintro e w' ⟨rfl,rfl⟩);go_ret;exact⟨TS HB.out.symm,rfl⟩
   .have HB:Hid (∀j,j<k+1->YS (Ul s j)=true):=ZJ ak.out hb
    unfold YS at hb;cases g1:Wp (Ul s k)
    .rw[g1]at hb hB
     simp at hb;rw[<- e]at hB hb;by_cases g2:(s[k].toNat:Int)=43
     .have ke:((s[k].toNat:Int) != 43)=false:=by simp[g2]
      clear e g1 hb g2;go_wp2_with (go_at_call 99;refine(hB _).mono ?_;rintro e w' ⟨rfl,rfl⟩);go_round
      .exact⟨k+1,Q,Z7,HB⟩
      .simp[intOf];omega
     .have ke:((s[k].toNat:Int) != 43)=true:=by simpa using g2
      have J0:((s[k].toNat:Int) != 45)=false:=Z6;clear e g1 hb g2;go_wp2_with (go_at_call 99;refine(hB _).mono ?_;rintro e w' ⟨rfl,rfl⟩);go_round
      .exact⟨k+1,Q,Z7,HB⟩
      .simp[intOf];omega
    .rw[g1, <- e]at hB
     clear e g1 hb;go_wp2_with (go_at_call 99;refine(hB _).mono ?_;rintro e w' ⟨rfl,rfl⟩);go_round
     .exact⟨k+1,Q,Z7,HB⟩
     .simp[intOf];omega
  .have e:k=s.size:=Q
   subst e;have HB:Hid (XL s=(decide (s.size<=6)&& !(s.toList==[45]))):=j08 ak.out;by_cases h6:s.size<=6
   .go_wp2
    go_ret;exact⟨TS (by rw[HB.out];simp[h6]),rfl⟩
   .go_wp2
    go_ret;exact⟨TS (by rw[HB.out];simp[h6]),rfl⟩
def Zx(w:World):Prop:=U3 w/\Mx w
theorem Zx.of_below(h:Zx w)(hb:Bw w w'):Zx w':=⟨h.1.of_below hb,h.2.of_below hb⟩
theorem Zx.alloc(h:Zx w)(o:Obj):Zx (w.alloc o):=⟨h.1.alloc o,h.2.alloc o⟩
def onB(s:ByteArray):Bool:=VM 2000 1 s != -1000000
theorem jol(s:ByteArray)(w:World)(hE:Zx w)(hz:s.size<=1048576):
  C 163 #[I s] w λe w'=>e=V (Z (onB s))/\Bw w w':=by
 have hX:=λw (h:Zx w)=>joi 2000 1 s w h.1 h.2 hz
 unfold onB;generalize VM 2000 1 s=r at *;delta C;go_in;go_wp2_with fail;refine(hX _ hE).mono ?_;rintro e w1 ⟨rfl,hb⟩;go_wp2;go_ret;exact⟨rfl,hb⟩
theorem jh7(s:ByteArray)(w:World)(hz:s.size<=1048576):
  C 94 #[I s] w λe w'=>e=V (Z (onB s))/\Bw w w':=by
 have hy:VK 2000 1=true:=Z5;have hX:=λw=>jkw 2000 1 s w hy hz
 have e:VM 2000 1 s=VF 2000 1 s:=by unfold VM;rw[hy,if_pos rfl,jig hy]
 unfold onB;rw[e];clear e;generalize VF 2000 1 s=r at *;delta C;go_in;go_wp2_with fail;refine(hX _).mono ?_;rintro e w1 ⟨rfl,hb⟩;go_wp2;go_ret;exact⟨rfl,hb⟩
def U5(r:Ud):Bool:=U6 r.name&&(Uk r.lo 1 9999&&(Uk r.hi r.lo 9999&&(Uk r.UB 1 12&&(onB r.on&&(Uk r.at_ 0 604800&&(Zu r.of&&(Uk r.TF (-7200) 7200&&XL r.Uc)))))))
def jyt(r:Ud):Bool:=U6 r.name&&(Uk r.lo 1 9999&&(Uk r.hi 1 9999&&(decide (r.lo<=r.hi)&&(decide (1<=r.UB)&&(decide (r.UB<=12)&&(onB r.on&&(decide (0<=r.at_)&&(decide (r.at_<=604800)&&(Zu r.of&&(Uk r.TF (-7200) 7200&&XL r.Uc))))))))))
theorem jvk(r:Ud):jyt r=U5 r:=by
 unfold jyt U5;have e1:Uk r.UB 1 12=(decide (1<=r.UB)&&decide (r.UB<=12)):=by unfold Uk;simp
 have e2:Uk r.at_ 0 604800=(decide (0<=r.at_)&&decide (r.at_<=604800)):=by unfold Uk;simp
 have e3:(Uk r.lo 1 9999&&(Uk r.hi 1 9999&&decide (r.lo<=r.hi)))=(Uk r.lo 1 9999&&Uk r.hi r.lo 9999):=by
  rw[Bool.eq_iff_iff];unfold Uk;simp;omega
 rw[e1,e2];have e4:∀x,(Uk r.lo 1 9999&&(Uk r.hi 1 9999&&(decide (r.lo<=r.hi)&&x)))=(Uk r.lo 1 9999&&(Uk r.hi r.lo 9999&&x)):=λx=>by
  rw[<- Bool.and_assoc (Uk r.hi 1 9999), <- Bool.and_assoc (Uk r.lo 1 9999),e3,Bool.and_assoc]
 rw[e4];simp only[Bool.and_assoc]
theorem ji7(r:Ud)(w:World)(hE:Zx w)(ok:r.ok)(hz:r.on.size<=1048576):
  C 118 #[r.v] w λe w'=>e=V (Z (jyt r))/\Bw w w':=by
 obtain⟨name,lo,hi,UB,on,at_,of,TF,Uc⟩:=r;have⟨k1,k2,k3,k4⟩:=ok;simp only[Ud.v,jyt]at *;have h1:=λw=>ja7 name w k1
 have h2:=λw=>je0 lo w
 have h3:=λw=>je0 hi w
 have h4:=λw (h:Zx w)=>jol on w h hz
 have h5:=λw=>jgz of w
 have h6:=λw=>je2 TF w
 have h7:=λw=>jhf Uc w k4
 generalize U6 name=b1 at *;generalize Uk lo 1 9999=b2 at *;generalize Uk hi 1 9999=b3 at *;generalize onB on=b4 at *;generalize Zu of=b5 at *;generalize Uk TF (-7200) 7200=b6 at *;generalize XL Uc=b7 at *;have ag:=λo=>TK w o
 delta C;go_in;go_wp2_with fail;refine(h1 _).mono ?_;rintro e w9 ⟨rfl,rfl⟩;cases b1
 case false=>
  go_wp2;go_ret;exact⟨TS M,(ag _)⟩
 go_wp2_with fail;refine(h2 _).mono ?_;rintro e w9 ⟨rfl,rfl⟩;cases b2
 case false=>
  go_wp2;go_ret;exact⟨TS M,(ag _)⟩
 go_wp2_with fail;refine(h3 _).mono ?_;rintro e w9 ⟨rfl,rfl⟩;cases b3
 case false=>
  go_wp2;go_ret;exact⟨TS M,(ag _)⟩
 by_cases g1:lo<=hi
 case neg=>
  go_wp2;go_ret;exact⟨TS (by simp;intros;omega),(ag _)⟩
 by_cases g2:1<=UB
 case neg=>
  go_wp2;go_ret;exact⟨TS (by simp;intros;omega),(ag _)⟩
 by_cases g3:UB<=12
 case neg=>
  go_wp2;go_ret;exact⟨TS (by simp;intros;omega),(ag _)⟩
 go_wp2_with fail;refine(h4 _ (hE.alloc _)).mono ?_;rintro e w1 ⟨rfl,hb1⟩;have⟨hc,_⟩:=Uq hb1;have hlt:w.heap.size<w1.heap.size:=by have:=hb1.size;simp at this;omega
 have aj:=(ag _).trans (hb1.mono M);cases b4
 case false=>
  go_wp2;go_ret;exact⟨TS M,aj⟩
 by_cases g4:0<=at_
 case neg=>
  go_wp2;go_ret;exact⟨TS (by simp;intros;omega),aj⟩
 by_cases g5:at_<=604800
 case neg=>
  go_wp2;go_ret;exact⟨TS (by simp;intros;omega),aj⟩
 go_wp2_with fail;refine(h5 _).mono ?_;rintro e w9 ⟨rfl,rfl⟩;cases b5
 case false=>
  go_wp2;go_ret;exact⟨TS M,aj⟩
 go_wp2_with fail;refine(h6 _).mono ?_;rintro e w9 ⟨rfl,rfl⟩;cases b6
 case false=>
  go_wp2;go_ret;exact⟨TS M,aj⟩
 go_wp2_with fail;refine(h7 _).mono ?_;rintro e w9 ⟨rfl,rfl⟩;go_wp2;go_ret;exact⟨TS (by simp[*]),aj⟩
theorem jm9(r:Ud)(w:World)(ok:r.ok)(hz:r.on.size<=1048576):
  C 55 #[r.v] w λe w'=>e=V (Z (U5 r))/\Bw w w':=by
 obtain⟨name,lo,hi,UB,on,at_,of,TF,Uc⟩:=r;have⟨k1,k2,k3,k4⟩:=ok;simp only[Ud.v,U5]at *;have h1:=λw=>jbu name w k1
 have h2:=λw=>jna lo w
 have h3:=λw=>Yz hi lo 9999 w
 have h8:=λw=>Yz UB 1 12 w
 have h4:=λw=>jh7 on w hz
 have h9:=λw=>Yz at_ 0 604800 w
 have h5:=λw=>jku of w
 have h6:=λw=>jgr TF w
 have h7:=λw=>jjy Uc w k4
 generalize U6 name=b1 at *;generalize Uk lo 1 9999=b2 at *;generalize Uk hi lo 9999=b3 at *;generalize Uk UB 1 12=b8 at *;generalize onB on=b4 at *;generalize Uk at_ 0 604800=b9 at *;generalize Zu of=b5 at *;generalize Uk TF (-7200) 7200=b6 at *;generalize XL Uc=b7 at *;have ag:=λo=>TK w o
 delta C;go_in;go_wp2_with fail;refine(h1 _).mono ?_;rintro e w9 ⟨rfl,rfl⟩;cases b1
 case false=>
  go_wp2;go_ret;exact⟨TS M,(ag _)⟩
 go_wp2_with fail;refine(h2 _).mono ?_;rintro e w9 ⟨rfl,rfl⟩;cases b2
 case false=>
  go_wp2;go_ret;exact⟨TS M,(ag _)⟩
 go_wp2_with fail;refine(h3 _).mono ?_;rintro e w9 ⟨rfl,rfl⟩;cases b3
 case false=>
  go_wp2;go_ret;exact⟨TS M,(ag _)⟩
 go_wp2_with fail;refine(h8 _).mono ?_;rintro e w9 ⟨rfl,rfl⟩;cases b8
 case false=>
  go_wp2;go_ret;exact⟨TS M,(ag _)⟩
 go_wp2_with fail;refine(h4 _).mono ?_;rintro e w1 ⟨rfl,hb1⟩;have⟨hc,_⟩:=Uq hb1;have hlt:w.heap.size<w1.heap.size:=by have:=hb1.size;simp at this;omega
 have aj:=(ag _).trans (hb1.mono M);cases b4
 case false=>
  go_wp2;go_ret;exact⟨TS M,aj⟩
 go_wp2_with fail;refine(h9 _).mono ?_;rintro e w9 ⟨rfl,rfl⟩;cases b9
 case false=>
  go_wp2;go_ret;exact⟨TS M,aj⟩
 go_wp2_with fail;refine(h5 _).mono ?_;rintro e w9 ⟨rfl,rfl⟩;cases b5
 case false=>
  go_wp2;go_ret;exact⟨TS M,aj⟩
 go_wp2_with fail;refine(h6 _).mono ?_;rintro e w9 ⟨rfl,rfl⟩;cases b6
 case false=>
  go_wp2;go_ret;exact⟨TS M,aj⟩
 go_wp2_with fail;refine(h7 _).mono ?_;rintro e w9 ⟨rfl,rfl⟩;go_wp2;go_ret;exact⟨TS (by simp[*]),aj⟩
theorem jkc(r:Ud)(w:World)(hE:Zx w)(ok:r.ok)(hz:r.on.size<=1048576):
  C 118 #[r.v] w λe w'=>e=V (Z (U5 r))/\Bw w w':=by
 rw[<- jvk];exact ji7 r w hE ok hz
def YM(c:Int):Bool:=Wp c || (Wm c || (c==43 || (c==45 || (c==37 || c==47))))
def WS(s:ByteArray):Nat->Int
 |0=>0
 |k+1=>WS s k+(if Ul s k=47 then 1 else 0)
theorem jsx(s:ByteArray)(k:Nat):0<=WS s k/\WS s k<=k:=by
 induction k with
 |zero=>simp[WS]
 |succ k ih=>simp only[WS];split<;>omega
def Ya(s:ByteArray):Bool:=decide (1<=s.size/\s.size<=12/\WS s s.size<=1/\∀i,i<s.size->YM (Ul s i)=true)
theorem jk8(h:¬(1<=s.size/\s.size<=12/\WS s s.size<=1)):Ya s=false:=dfe λhn=>h ⟨hn.1,hn.2.1,hn.2.2.1⟩
theorem jxa(hk:k<s.size)(h:YM (Ul s k)=false):Ya s=false:=dfe λhn=>by rw[hn.2.2.2 k hk]at h;cases h
theorem jw9(h1:1<=s.size)(h2:s.size<=12)(h3:WS s s.size<=1)(h:∀i,i<s.size->YM (Ul s i)=true):Ya s=true:=Uy ⟨h1,h2,h3,h⟩
theorem jgd(c:Int)(w:World):
  C 246 #[.int .u8 c] w λe w'=>e=V (Z (YM c))/\w'=w:=by
 have hL:=λw=>jcq c w
 have hD:=λw=>jd8 c w
 unfold YM;generalize Wp c=b1 at *;generalize Wm c=b2 at *;delta C;go_in;go_wp2_with fail;refine(hL _).mono ?_;rintro e w1 ⟨rfl,rfl⟩;cases b1
 case true=>
  go_wp2;go_ret;exact⟨TS M,rfl⟩
 go_wp2_with fail;refine(hD _).mono ?_;rintro e w1 ⟨rfl,rfl⟩;cases b2
 case true=>
  go_wp2;go_ret;exact⟨TS M,rfl⟩
 go_wp2
 all_goals go_ret
 all_goals exact⟨TS (by first|(simp_all;done)|simp[Bool.or_assoc]),rfl⟩
theorem jll(s:ByteArray)(k:Nat)(hk:k<=s.size):WS s k=((s.data.toList.take k).count 47:Nat):=by
 have hz:s.data.toList.length=s.size:=by rw[Array.length_toList];rfl
 induction k with
 |zero=>simp[WS]
 |succ k ih=>
  have hlt:k<s.data.toList.length:=Q;have e:Ul s k=(s.data.toList[k].toNat:Int):=by
   rw[<- Wj s k Q];rfl
  rw[List.take_add_one,Ug hlt,List.count_append,WS,ih Q,e];by_cases h:s.data.toList[k]=47
  .rw[h];simp
  .have h2:¬(s.data.toList[k].toNat:Int)=47:=λhn=>h (by
    apply UInt8.toNat_inj.mp
    show s.data.toList[k].toNat=47
    omega)
   have hc:List.count 47 [s.data.toList[k]]=0:=List.count_eq_zero_of_not_mem (by simpa using λhn=>h hn.symm);rw[if_neg h2,Option.toList_some,hc];simp
theorem jpn(s:ByteArray):(Lib.countByte s.data.toList 47:Int)=WS s s.size:=by
 have hz:s.data.toList.length=s.size:=by rw[Array.length_toList];rfl
 rw[jll s s.size (TP _),List.take_of_length_le Q];rfl
theorem jhi(s:ByteArray)(w:World)(hs:s.size<=maxLen):
  C 216 #[I s] w λe w'=>e=V (Z (Ya s))/\w'=w:=by
 unfold maxLen at hs;by_cases h1:s.size<1
 .rw[jk8 Q]
  delta C;go_in;go_wp2;go_ret;exact⟨rfl,rfl⟩
 by_cases h2:12<s.size
 .rw[jk8 Q]
  delta C;go_in;go_wp2;go_ret;exact⟨rfl,rfl⟩
 have hC:=λw=>Tryz.strings_Count_one s 47 w
 rw[jpn]at hC;by_cases h3:1<WS s s.size
 .rw[jk8 Q]
  generalize WS s s.size=n at *;delta C;go_in;go_wp2_with (go_at_call 245;refine(hC _).mono ?_;rintro e w' ⟨rfl,rfl⟩);go_ret;exact⟨rfl,rfl⟩
 have sc:Hid (WS s s.size<=1):=by simp only[Hid];omega
 generalize hn:WS s s.size=n at hC h3;delta C;go_in;go_wp2_with (go_at_call 245;refine(hC _).mono ?_;rintro e w' ⟨rfl,rfl⟩);go_loop [19] (λi=>∃k:Nat,k<=s.size/\i=J k/\Hid (∀j,j<k->YM (Ul s j)=true)) (λi=>s.size-(intOf i).toNat)
 .exact⟨0,Q,rfl,vaU⟩
 ·
  obtain⟨k,hk,rfl,ak⟩:=hrel;by_cases hlt:k<s.size
  .have hB:=λw=>jgd (Ul s k) w
   have e:=Wj s k hlt;cases hb:YM (Ul s k)
   .have HB:Hid (Ya s=false):=jxa hlt hb
    rw[hb, <- e]at hB;clear hb e;go_wp2_with (go_at_call 246;refine(hB _).mono ?_;rintro e w' ⟨rfl,rfl⟩);go_ret;exact⟨TS HB.out.symm,rfl⟩
   .have HB:Hid (∀j,j<k+1->YM (Ul s j)=true):=ZJ ak.out hb
    rw[hb, <- e]at hB;clear hb e;go_wp2_with (go_at_call 246;refine(hB _).mono ?_;rintro e w' ⟨rfl,rfl⟩);go_round
    .exact⟨k+1,Q,Z7,HB⟩
    .simp[intOf];omega
  .have e:k=s.size:=Q
   subst e;have HB:Hid (Ya s=true):=jw9 Q Q sc.out ak.out;go_wp2;go_ret;exact⟨TS HB.out.symm,rfl⟩
theorem jjz(s:ByteArray)(w:World)(hs:s.size<=maxLen):
  C 150 #[I s] w λe w'=>e=V (Z (Ya s))/\w'=w:=by
 unfold maxLen at hs;delta C;go_in;go_wp2;go_loop [3,4] (λx i=>∃k:Nat,k<=s.size/\i=J k/\x=J (WS s k)/\Hid (∀j,j<k->YM (Ul s j)=true)) (λ_ i=>s.size-(intOf i).toNat)
 .exact⟨0,Q,rfl,rfl,vaU⟩
 ·
  obtain⟨k,hk,rfl,rfl,ak⟩:=hrel;have sb:=jsx s k;by_cases hlt:k<s.size
  .have hL:=λw=>jcd (Ul s k) w
   have hD:=λw=>jdi (Ul s k) w
   have e:=Wj s k hlt;by_cases lU:Ul s k=47
   .have HN:Hid (WS s (k+1)=WS s k+1):=by simp only[Hid,WS];rw[if_pos lU]
    have HB:Hid (∀j,j<k+1->YM (Ul s j)=true):=ZJ ak.out (by rw[lU];decide);have g:((s[k].toNat:Int)==47)=true:=by rw[e,lU];rfl
    clear e lU hL hD;go_wp2;go_round
    .exact⟨k+1,Q,Z7,by rw[HN.out],HB⟩
    .simp[intOf];omega
   .have HN:Hid (WS s (k+1)=WS s k):=by simp only[Hid,WS];rw[if_neg lU];omega
    have g:((s[k].toNat:Int)==47)=false:=by rw[e];simpa using lU
    cases hb:YM (Ul s k)
    .have HB:Hid (Ya s=false):=jxa hlt hb
     unfold YM at hb;simp only[Bool.or_eq_false_iff]at hb;have⟨q1,q2,q3,q4,q5,_⟩:=hb;rw[q1, <- e]at hL;rw[q2, <- e]at hD;rw[<- e]at q3 q4 q5;have PJ:((s[k].toNat:Int) != 43)=true:=by simpa using q3
     have PK:((s[k].toNat:Int) != 45)=true:=by simpa using q4
     have PL:((s[k].toNat:Int) != 37)=true:=by simpa using q5
     clear e lU q1 q2 q3 q4 q5;go_wp2_with (first|(go_at_call 99;refine(hL _).mono ?_;rintro e w' ⟨rfl,rfl⟩)|(go_at_call 100;refine(hD _).mono ?_;rintro e w' ⟨rfl,rfl⟩));go_ret;exact⟨TS HB.out.symm,rfl⟩
    .have HB:Hid (∀j,j<k+1->YM (Ul s j)=true):=ZJ ak.out hb
     have hc:Wp (Ul s k)=true\/(Wp (Ul s k)=false/\Wm (Ul s k)=true)\/(Wp (Ul s k)=false/\Wm (Ul s k)=false/\Ul s k=43)\/(Wp (Ul s k)=false/\Wm (Ul s k)=false/\Ul s k=45)\/(Wp (Ul s k)=false/\Wm (Ul s k)=false/\Ul s k=37):=by
      unfold YM at hb;cases q1:Wp (Ul s k)
      .cases q2:Wm (Ul s k)
       .rw[q1,q2]at hb
        simp at hb;rcases hb with h|h|h|h
        .exact .inr (.inr (.inl ⟨rfl,rfl,h⟩))
        .exact .inr (.inr (.inr (.inl ⟨rfl,rfl,h⟩)))
        .exact .inr (.inr (.inr (.inr ⟨rfl,rfl,h⟩)))
        .exact absurd h lU
       .exact .inr (.inl ⟨rfl,rfl⟩)
      .exact .inl rfl
     clear hb lU;rcases hc with q1|⟨q1,q2⟩|⟨q1,q2,q3⟩|⟨q1,q2,q3⟩|⟨q1,q2,q3⟩
     .rw[q1, <- e]at hL
      clear e q1 hD;go_wp2_with (go_at_call 99;refine(hL _).mono ?_;rintro e w' ⟨rfl,rfl⟩);go_round
      .exact⟨k+1,Q,Z7,by rw[HN.out],HB⟩
      .simp[intOf];omega
     all_goals
      rw[q1, <- e]at hL;rw[q2, <- e]at hD
     .clear e q1 q2
      go_wp2_with (first|(go_at_call 99;refine(hL _).mono ?_;rintro e w' ⟨rfl,rfl⟩)|(go_at_call 100;refine(hD _).mono ?_;rintro e w' ⟨rfl,rfl⟩));go_round
      .exact⟨k+1,Q,Z7,by rw[HN.out],HB⟩
      .simp[intOf];omega
     .have t1:((s[k].toNat:Int) != 43)=false:=by rw[e,q3];rfl
      clear e q1 q2 q3;go_wp2_with (first|(go_at_call 99;refine(hL _).mono ?_;rintro e w' ⟨rfl,rfl⟩)|(go_at_call 100;refine(hD _).mono ?_;rintro e w' ⟨rfl,rfl⟩));go_round
      .exact⟨k+1,Q,Z7,by rw[HN.out],HB⟩
      .simp[intOf];omega
     .have t1:((s[k].toNat:Int) != 43)=true:=by rw[e,q3];rfl
      have t2:((s[k].toNat:Int) != 45)=false:=by rw[e,q3];rfl
      clear e q1 q2 q3;go_wp2_with (first|(go_at_call 99;refine(hL _).mono ?_;rintro e w' ⟨rfl,rfl⟩)|(go_at_call 100;refine(hD _).mono ?_;rintro e w' ⟨rfl,rfl⟩));go_round
      .exact⟨k+1,Q,Z7,by rw[HN.out],HB⟩
      .simp[intOf];omega
     .have t1:((s[k].toNat:Int) != 43)=true:=by rw[e,q3];rfl
      have t2:((s[k].toNat:Int) != 45)=true:=by rw[e,q3];rfl
      have t3:((s[k].toNat:Int) != 37)=false:=by rw[e,q3];rfl
      clear e q1 q2 q3;go_wp2_with (first|(go_at_call 99;refine(hL _).mono ?_;rintro e w' ⟨rfl,rfl⟩)|(go_at_call 100;refine(hD _).mono ?_;rintro e w' ⟨rfl,rfl⟩));go_round
      .exact⟨k+1,Q,Z7,by rw[HN.out],HB⟩
      .simp[intOf];omega
  .have e:k=s.size:=Q
   subst e;by_cases h1:1<=s.size
   .by_cases h2:s.size<=12
    .by_cases h3:WS s s.size<=1
     .have HB:Hid (Ya s=true):=jw9 h1 h2 h3 ak.out
      go_wp2;go_ret;exact⟨TS HB.out.symm,rfl⟩
     .have HB:Hid (Ya s=false):=jk8 Q
      go_wp2;go_ret;exact⟨TS HB.out.symm,rfl⟩
    .have HB:Hid (Ya s=false):=jk8 Q
     go_wp2;go_ret;exact⟨TS HB.out.symm,rfl⟩
   .have HB:Hid (Ya s=false):=jk8 Q
    go_wp2;go_ret;exact⟨TS HB.out.symm,rfl⟩
def erB(e:TX):Bool:=if e.Tw.toList.isEmpty=true then Uk e.TF (-7200) 7200 else U6 e.Tw&&decide (e.TF=0)
theorem jfw(e:TX)(w:World)(ok:e.ok):
  C 215 #[e.v] w λx w'=>x=V (Z (erB e))/\Bw w w':=by
 obtain⟨TI,Tw,TF,Uz,Ua,of⟩:=e;have⟨k1,k2,k3⟩:=ok;simp only[TX.v,erB]at *;have h1:=λw=>je2 TF w
 have h2:=λw=>ja7 Tw w k1
 generalize Uk TF (-7200) 7200=b1 at *;generalize U6 Tw=b2 at *;cases he:Tw.toList.isEmpty
 .simp only[Bool.false_eq_true,if_false]
  delta C;go_in;go_wp2_with fail;refine(h2 _).mono ?_;rintro e w1 ⟨rfl,rfl⟩;cases b2
  .go_wp2
   go_ret;exact⟨TS M,TK _ _⟩
  .go_wp2
   go_ret;exact⟨TS (by simp;rfl),TK _ _⟩
 .simp only[if_true]
  delta C;go_in;go_wp2_with fail;refine(h1 _).mono ?_;rintro e w1 ⟨rfl,rfl⟩;go_wp2;go_ret;exact⟨rfl,TK _ _⟩
def X9(e:TX):Bool:=decide (-86400<=e.TI)&&(decide (e.TI<=86400)&&(erB e&&(Ya e.Uz&&(decide (-62135596800<=e.Ua)&&(decide (e.Ua<=253402300799)&&Zu e.of)))))
theorem jg1(n:Int)(w:World):
  C 127 #[J n] w λe w'=>e=V (Z (Uk n (-62135596800) 253402300799))/\w'=w:=by
 by_cases h: -62135596800<=n
 .delta C;go_in
  go_wp2;go_ret;exact⟨TS (by unfold Uk;simp[h]),rfl⟩
 .delta C;go_in
  go_wp2;go_ret;exact⟨TS (jj8 Q).symm,rfl⟩
theorem jmd(e:TX)(w:World)(ok:e.ok):
  C 168 #[e.v] w λx w'=>x=V (Z (X9 e))/\Bw w w':=by
 have h1:=λw=>jfw e w ok
 unfold X9;generalize erB e=b1 at *;obtain⟨TI,Tw,TF,Uz,Ua,of⟩:=e;have⟨k1,k2,k3⟩:=ok;simp only[TX.v]at *;have h2:=λw=>jhi Uz w k2
 have h3:=λw=>jgz of w
 have h4:=λw=>jg1 Ua w
 generalize Ya Uz=b2 at *;generalize Zu of=b3 at *;have ag:=λo=>TK w o
 delta C;go_in;by_cases g1: -86400<=TI
 case neg=>
  go_wp2;go_ret;exact⟨TS (by simp;intros;omega),ag _⟩
 by_cases g2:TI<=86400
 case neg=>
  go_wp2;go_ret;exact⟨TS (by simp;intros;omega),ag _⟩
 go_wp2_with fail;refine(h1 _).mono ?_;rintro e w1 ⟨rfl,hb1⟩;have⟨hc,_⟩:=Uq hb1;have hlt:w.heap.size<w1.heap.size:=by have:=hb1.size;simp at this;omega
 have aj:=(ag _).trans (hb1.mono M);cases b1
 case false=>
  go_wp2;go_ret;exact⟨TS M,aj⟩
 go_wp2_with fail;refine(h2 _).mono ?_;rintro e w9 ⟨rfl,rfl⟩;cases b2
 case false=>
  go_wp2;go_ret;exact⟨TS M,aj⟩
 by_cases xF: -62135596800<=Ua/\Ua<=253402300799
 case neg=>
  rw[jj8 xF]at h4;go_wp2_with fail;refine(h4 _).mono ?_;rintro e w8 ⟨rfl,rfl⟩;go_wp2;go_ret;exact⟨TS (by simp;intros;omega),aj⟩
 rw[ZS xF.1 xF.2]at h4;have⟨g3,g4⟩:=xF;go_wp2_with fail;refine(h4 _).mono ?_;rintro e w8 ⟨rfl,rfl⟩;go_wp2_with fail;refine(h3 _).mono ?_;rintro e w9 ⟨rfl,rfl⟩;go_wp2;go_ret;exact⟨TS (by simp[*]),aj⟩
def Yn(l:UO):Bool:=U6 l.UQ&&U6 l.name
theorem jke(l:UO)(w:World)(ok:l.ok):
  C 122 #[l.v] w λx w'=>x=V (Z (Yn l))/\Bw w w':=by
 obtain⟨UQ,name⟩:=l;have⟨k1,k2⟩:=ok;simp only[UO.v,Yn]at *;have h1:=λw=>ja7 UQ w k1
 have h2:=λw=>ja7 name w k2
 generalize U6 UQ=b1 at *;generalize U6 name=b2 at *;delta C;go_in;go_wp2_with fail;refine(h1 _).mono ?_;rintro e w1 ⟨rfl,rfl⟩;cases b1
 case false=>
  go_wp2;go_ret;exact⟨TS M,TK _ _⟩
 go_wp2_with fail;refine(h2 _).mono ?_;rintro e w1 ⟨rfl,rfl⟩;go_wp2;go_ret;exact⟨TS M,TK _ _⟩
theorem jg5{α:Type}{l:List α}{p:α->Bool}{x:α}(hk:l[k]? =some x)(h:p x=false):l.all p=false:=by
 rw[List.all_eq_false];exact⟨x,UH hk,by simp[h]⟩
theorem jed{α:Type}{l:List α}{p:α->Bool}(h:∀j,j<l.length->∀x,l[j]? =some x->p x=true):l.all p=true:=by
 rw[List.all_eq_true];intro x hx;have⟨j,hj⟩:=Wq hx;exact h j (Ux hj).1 x hj
theorem jop(l:List Ud)(a:Option Addr)(cap:Nat)(w:World)(hE:Zx w)(hA:Za w a 9 (l.map Ud.cs))(hok:∀r∈l,r.ok)(hz:∀r∈l,r.on.size<=1048576)(hl:l.length<=1048576):
  C 117 #[U a l.length cap,.func (.func 118) #[] #[]] w λe w'=>e=V (Z (l.all U5))/\Bw w w':=by
 delta C;go_in;go_wp2;go_loopw [9] (λi wr=>∃k:Nat,k<=l.length/\i=J k/\Hid (∀j,j<k->∀x,l[j]? =some x->U5 x=true)/\Bw w wr) (λi _=>l.length-(intOf i).toNat)
 .exact⟨0,Q,rfl,λj hj=>Q,Ui _ _⟩
 ·
  obtain⟨k,hk,rfl,ak,hB⟩:=hrel;by_cases hlt:k<l.length
  .have⟨r,hr⟩:=Vb hlt
   have ap:(l.map Ud.cs)[k]? =some r.cs:=by rw[Uv,hr];rfl
   obtain⟨b,o,rfl,hc⟩:=(hA.below hB).at (i:=k) ap;have ok:=hok r (UH hr);have hS:=λw (h:Zx w)=>jkc r w h ok (hz r (UH hr))
   have jx:=hE.of_below hB;have c0:wr.cell? (O b (o+k*9))=some (I r.name):=hc 0 _ rfl;have c1:=hc 1 _ rfl;have c2:=hc 2 _ rfl;have c3:=hc 3 _ rfl;have c4:=hc 4 _ rfl;have c5:=hc 5 _ rfl;have c6:=hc 6 _ rfl;have c7:=hc 7 _ rfl;have c8:=hc 8 _ rfl;clear hc;unfold Ud.v at hS;cases hb:U5 r
   .have HR:Hid (l.all U5=false):=jg5 hr hb
    rw[hb]at hS;clear hb;go_wp2_with fail;refine(hS _ (jx.alloc _)).mono ?_;rintro e w2 ⟨rfl,ac⟩;go_wp2;go_ret;exact⟨TS HR.out.symm,(hB.alloc hB.size _).trans (ac.mono (by simp;have:=hB.size;omega))⟩
   .have HR:Hid (∀j,j<k+1->∀x,l[j]? =some x->U5 x=true):=λj hj x hx=>by
     by_cases e:j=k
     .subst e;rw[hr]at hx;obtain rfl:=Uw hx;exact hb
     .exact ak.out j Q x hx
    rw[hb]at hS;clear hb;go_wp2_with fail;refine(hS _ (jx.alloc _)).mono ?_;rintro e w2 ⟨rfl,ac⟩;go_wp2;go_roundw
    .exact⟨k+1,Q,Z7,HR,(hB.alloc hB.size _).trans (ac.mono (by simp;have:=hB.size;omega))⟩
    .simp[intOf];omega
  .have e:k=l.length:=Q
   subst e;have HR:Hid (l.all U5=true):=jed ak.out;go_wp2;go_ret;exact⟨TS HR.out.symm,hB⟩
theorem jqt(l:List TX)(a:Option Addr)(cap:Nat)(w:World)(hA:Za w a 6 (l.map TX.cs))(hok:∀r∈l,r.ok)(hl:l.length<=1048576):
  C 167 #[U a l.length cap,.func (.func 168) #[] #[]] w λe w'=>e=V (Z (l.all X9))/\Bw w w':=by
 delta C;go_in;go_wp2;go_loopw [9] (λi wr=>∃k:Nat,k<=l.length/\i=J k/\Hid (∀j,j<k->∀x,l[j]? =some x->X9 x=true)/\Bw w wr) (λi _=>l.length-(intOf i).toNat)
 .exact⟨0,Q,rfl,λj hj=>Q,Ui _ _⟩
 ·
  obtain⟨k,hk,rfl,ak,hB⟩:=hrel;by_cases hlt:k<l.length
  .have⟨r,hr⟩:=Vb hlt
   have ap:(l.map TX.cs)[k]? =some r.cs:=by rw[Uv,hr];rfl
   obtain⟨b,o,rfl,hc⟩:=(hA.below hB).at (i:=k) ap;have ok:=hok r (UH hr);have hS:=λw=>jmd r w ok
   have c0:wr.cell? (O b (o+k*6))=some (J r.TI):=hc 0 _ rfl;have c1:=hc 1 _ rfl;have c2:=hc 2 _ rfl;have c3:=hc 3 _ rfl;have c4:=hc 4 _ rfl;have c5:=hc 5 _ rfl;clear hc;unfold TX.v at hS;cases hb:X9 r
   .have HR:Hid (l.all X9=false):=jg5 hr hb
    rw[hb]at hS;clear hb;go_wp2_with fail;refine(hS _).mono ?_;rintro e w2 ⟨rfl,ac⟩;go_wp2;go_ret;exact⟨TS HR.out.symm,(hB.alloc hB.size _).trans (ac.mono (by simp;have:=hB.size;omega))⟩
   .have HR:Hid (∀j,j<k+1->∀x,l[j]? =some x->X9 x=true):=λj hj x hx=>by
     by_cases e:j=k
     .subst e;rw[hr]at hx;obtain rfl:=Uw hx;exact hb
     .exact ak.out j Q x hx
    rw[hb]at hS;clear hb;go_wp2_with fail;refine(hS _).mono ?_;rintro e w2 ⟨rfl,ac⟩;go_wp2;go_roundw
    .exact⟨k+1,Q,Z7,HR,(hB.alloc hB.size _).trans (ac.mono (by simp;have:=hB.size;omega))⟩
    .simp[intOf];omega
  .have e:k=l.length:=Q
   subst e;have HR:Hid (l.all X9=true):=jed ak.out;go_wp2;go_ret;exact⟨TS HR.out.symm,hB⟩
theorem joq(l:List UO)(a:Option Addr)(cap:Nat)(w:World)(hA:Za w a 2 (l.map UO.cs))(hok:∀r∈l,r.ok)(hl:l.length<=1048576):
  C 121 #[U a l.length cap,.func (.func 122) #[] #[]] w λe w'=>e=V (Z (l.all Yn))/\Bw w w':=by
 delta C;go_in;go_wp2;go_loopw [9] (λi wr=>∃k:Nat,k<=l.length/\i=J k/\Hid (∀j,j<k->∀x,l[j]? =some x->Yn x=true)/\Bw w wr) (λi _=>l.length-(intOf i).toNat)
 .exact⟨0,Q,rfl,λj hj=>Q,Ui _ _⟩
 ·
  obtain⟨k,hk,rfl,ak,hB⟩:=hrel;by_cases hlt:k<l.length
  .have⟨r,hr⟩:=Vb hlt
   have ap:(l.map UO.cs)[k]? =some r.cs:=by rw[Uv,hr];rfl
   obtain⟨b,o,rfl,hc⟩:=(hA.below hB).at (i:=k) ap;have ok:=hok r (UH hr);have hS:=λw=>jke r w ok
   have c0:wr.cell? (O b (o+k*2))=some (I r.UQ):=hc 0 _ rfl;have c1:=hc 1 _ rfl;clear hc;unfold UO.v at hS;cases hb:Yn r
   .have HR:Hid (l.all Yn=false):=jg5 hr hb
    rw[hb]at hS;clear hb;go_wp2_with fail;refine(hS _).mono ?_;rintro e w2 ⟨rfl,ac⟩;go_wp2;go_ret;exact⟨TS HR.out.symm,(hB.alloc hB.size _).trans (ac.mono (by simp;have:=hB.size;omega))⟩
   .have HR:Hid (∀j,j<k+1->∀x,l[j]? =some x->Yn x=true):=λj hj x hx=>by
     by_cases e:j=k
     .subst e;rw[hr]at hx;obtain rfl:=Uw hx;exact hb
     .exact ak.out j Q x hx
    rw[hb]at hS;clear hb;go_wp2_with fail;refine(hS _).mono ?_;rintro e w2 ⟨rfl,ac⟩;go_wp2;go_roundw
    .exact⟨k+1,Q,Z7,HR,(hB.alloc hB.size _).trans (ac.mono (by simp;have:=hB.size;omega))⟩
    .simp[intOf];omega
  .have e:k=l.length:=Q
   subst e;have HR:Hid (l.all Yn=true):=jed ak.out;go_wp2;go_ret;exact⟨TS HR.out.symm,hB⟩
def Y0:List TX->Bool
 |[]=>true
 |[_]=>true
 |x::y::l=>decide (x.Ua<y.Ua)&&Y0 (y::l)
theorem j20:∀{i:Nat} {x y:TX},es[i]? =some x->es[i+1]? =some y->¬x.Ua<y.Ua->Y0 es=false:=by
 induction es with
 |nil=>intro i x y h;simp at h
 | cons a l ih=>
  intro i x y hx hy hn
  match l,i with
  |[],_=>simp at hy
  |b::l,0=>
   simp at hx hy;subst hx hy;simp[Y0,hn]
  |b::l,i+1=>
   have:=ih (i:=i) (x:=x) (y:=y) (by simpa using hx) (by simpa using hy) hn;simp only[Y0,this,Bool.and_false]
theorem j0u(h:∀i x y,es[i]? =some x->es[i+1]? =some y->x.Ua<y.Ua):Y0 es=true:=by
 induction es with
 |nil=>rfl
 | cons a l ih=>
  match l with
  |[]=>rfl
  |b::l=>
   have h0:=h 0 a b rfl rfl;have:=ih λi x y hx hy=>h (i+1) x y (by simpa using hx) (by simpa using hy)
   simp only[Y0,this,Uy h0,Bool.and_true]
def va3(es:List TX):Bool:=match es[es.length-1]? with
 |some e=>(e.Ua==253402300799)&&(e.of.toList==[119])
 |none=>false
def VE(z:UE):Bool:=U6 z.name&&(decide (1<=z.TR.length/\z.TR.length<=8)&&(z.TR.all X9&&(Y0 z.TR&&va3 z.TR)))
theorem jx7(h:U6 z.name=false):VE z=false:=by unfold VE;rw[h];rfl
theorem jq9(h:¬(1<=z.TR.length/\z.TR.length<=8)):VE z=false:=by unfold VE;rw[dfe h];simp
theorem jx6(h:z.TR.all X9=false):VE z=false:=by unfold VE;rw[h];simp
theorem jx5(h:Y0 z.TR=false):VE z=false:=by unfold VE;rw[h];simp
theorem jx2(h1:U6 z.name=true)(h2:1<=z.TR.length/\z.TR.length<=8)(h3:z.TR.all X9=true)(h4:Y0 z.TR=true):VE z=va3 z.TR:=by unfold VE;rw[h1,Uy h2,h3,h4];simp
theorem jj9(z:UE)(v:Value)(w:World)(hv:Jf w v z.TR)(hm:z.ok):
  C 120 #[.agg #[I z.name,v]] w λe w'=>e=V (Z (VE z))/\Bw w w':=by
 obtain⟨a,cap,rfl,hA⟩:=hv;have⟨m1,m2,m3⟩:=hm;have h1:=λw=>ja7 z.name w m1
 have ag:=λo=>TK w o
 unfold maxLen at m2;cases hn:U6 z.name
 .rw[jx7 hn]
  rw[hn]at h1;generalize z.name=nm at *;clear hn;delta C;go_in;go_wp2_with (go_at_call 126;refine(h1 _).mono ?_;rintro e w' ⟨rfl,rfl⟩);go_ret;exact⟨rfl,ag _⟩
 rw[hn]at h1;by_cases rv:z.TR.length<1
 .rw[jq9 Q]
  delta C;go_in;go_wp2_with (go_at_call 126;refine(h1 _).mono ?_;rintro e w' ⟨rfl,rfl⟩);go_ret;exact⟨rfl,ag _⟩
 by_cases G3:8<z.TR.length
 .rw[jq9 Q]
  delta C;go_in;go_wp2_with (go_at_call 126;refine(h1 _).mono ?_;rintro e w' ⟨rfl,rfl⟩);go_ret;exact⟨rfl,ag _⟩
 have h2:=λw (h:Za w a 6 (z.TR.map TX.cs))=>jqt z.TR a cap w h m3 Q
 cases ha:z.TR.all X9
 .rw[jx6 ha]
  rw[ha]at h2;clear ha;delta C;go_in;go_wp2_with fail;refine(h1 _).mono ?_;rintro e w1 ⟨rfl,rfl⟩;go_wp2_with fail;refine(h2 _ (hA.below (ag _))).mono ?_;rintro e w1 ⟨rfl,hb1⟩;go_wp2;go_ret;exact⟨rfl,(ag _).trans (hb1.mono M)⟩
 rw[ha]at h2;have HZ:Hid (Y0 z.TR=true->VE z=va3 z.TR):=λh=>jx2 hn Q ha h
 have HN:Hid (Y0 z.TR=false->VE z=false):=λh=>jx5 h
 clear hn ha;generalize VE z=zb at *;delta C;go_in;go_wp2_with fail;refine(h1 _).mono ?_;rintro e w1 ⟨rfl,rfl⟩;go_wp2_with fail;refine(h2 _ (hA.below (ag _))).mono ?_;rintro e w1 ⟨rfl,hb1⟩;have⟨hc,_⟩:=Uq hb1;have aj:=(ag _).trans (hb1.mono M);have x1:w1.cell? (O w.heap.size 1)=some (U a z.TR.length cap):=(hc _ _ M).trans Z8;have eL:=hA.below aj;clear hc hb1 h1 h2;obtain⟨n,au⟩:∃n,z.TR.length=n+1:=⟨z.TR.length-1,Q⟩;go_wp2;go_loopw [28] (λi wr=>∃k:Nat,k<=n/\i=J k/\Hid (∀j,j<k->∀x y,z.TR[j]? =some x->z.TR[j+1]? =some y->x.Ua<y.Ua)/\Bw w1 wr) (λi _=>n-(intOf i).toNat)
 .exact⟨0,Q,rfl,λj hj=>Q,Ui _ _⟩
 ·
  obtain⟨k,hk,rfl,ak,hB⟩:=hrel;have y1:wr.cell? (O w.heap.size 1)=some (U a z.TR.length cap):=by rw[(Uq hB).1 _ _ (TV x1)];exact x1
  have dr:=TJ aj hB;by_cases hlt:k<n
  .obtain⟨r,hr⟩:∃r,z.TR[k]? =some r:=⟨_,Ug Q⟩
   obtain⟨r2,dC⟩:∃r,z.TR[k+1]? =some r:=⟨_,Ug Q⟩;obtain⟨b,o,rfl,hc⟩:=(eL.below hB).at (i:=k) (r:=r.cs) (by rw[Uv,hr];rfl);have⟨b',o',he,hd⟩:=(eL.below hB).at (i:=k+1) (r:=r2.cs) (by rw[Uv,dC];rfl);injection he with he
   injection he with e1 e2
   subst e1 e2;have c4:=hc 4 _ rfl;have d4:=hd 4 _ rfl;clear hc hd;by_cases hu:r.Ua<r2.Ua
   .have HR:Hid (∀j,j<k+1->∀x y,z.TR[j]? =some x->z.TR[j+1]? =some y->x.Ua<y.Ua):=λj hj x y hx hy=>by
     by_cases e:j=k
     .subst e;rw[hr]at hx;rw[dC]at hy;obtain rfl:=Uw hx;obtain rfl:=Uw hy;exact hu
     .exact ak.out j Q x y hx hy
    go_wp2_with fail;go_quiet (fail);go_wp2;go_roundw
    .exact⟨k+1,Q,Z7,HR,below_drewN hB _⟩
    .simp[intOf];omega
   .have HR:Hid (zb=false):=HN.out (j20 hr dC hu)
    go_wp2_with fail;go_quiet (fail);go_wp2;go_ret;exact⟨TS HR.out.symm,below_drewN dr _⟩
  .have e:k=n:=Q
   subst e;obtain⟨r,hr⟩:∃r,z.TR[k]? =some r:=⟨_,Ug Q⟩;obtain⟨b,o,rfl,hc⟩:=(eL.below hB).at (i:=k) (r:=r.cs) (by rw[Uv,hr];rfl);have c4:=hc 4 _ rfl;have c5:=hc 5 _ rfl;clear hc;have HR:Hid (zb=((r.Ua==253402300799)&&(r.of.toList==[119]))):=by
    simp only[Hid];rw[HZ.out (j0u λi x y hx hy=>ak.out i (by have:=(Ux hy).1;omega) x y hx hy)];unfold va3;rw[show z.TR.length-1=k by omega,hr]
   cases g:(r.Ua==253402300799)
   .rw[g]at HR
    go_wp2;go_ret;exact⟨TS HR.out.symm,dr⟩
   .rw[g]at HR
    go_wp2;go_ret;exact⟨TS (by rw[HR.out];simp),dr⟩
theorem jmr{α:Type}{l:List α}{p:α->Bool}{x:α}(hk:l[k]? =some x)(h:p x=true):l.any p=true:=by
 rw[List.any_eq_true];exact⟨x,UH hk,h⟩
theorem jsl{α:Type}{l:List α}{p:α->Bool}(h:∀j,j<l.length->∀x,l[j]? =some x->p x=false):l.any p=false:=by
 rw[List.any_eq_false];intro x hx;have⟨j,hj⟩:=Wq hx;simp[h j (Ux hj).1 x hj]
def hasB(rs:List Ud)(s:ByteArray):Bool:=rs.any λx=>x.name.toList==s.toList
theorem jlt(r:Un)(v:Value)(s:ByteArray)(w:World)(hv:Zd w v r)(hl:r.Tw.length<=1048576):
  C 149 #[v,I s] w λe w'=>e=V (Z (hasB r.Tw s))/\Bw w w':=by
 obtain⟨a,b,c,ca,cb,cc,rfl,hA,_,_⟩:=hv.form;generalize r.Tw=l at *;generalize r.TC.length=zn at *;generalize r.TG.length=ln at *;clear hv;have hB:=TK w (G #[U a l.length ca,U b zn cb,U c ln cc] 27);have eL:=hA.below hB;unfold hasB;delta C;go_in;go_wp2;go_loop [5] (λi=>∃k:Nat,k<=l.length/\i=J k/\Hid (∀j,j<k->∀x,l[j]? =some x->(x.name.toList==s.toList)=false)) (λi=>l.length-(intOf i).toNat)
 .exact⟨0,Q,rfl,λj hj=>Q⟩
 ·
  obtain⟨k,hk,rfl,ak⟩:=hrel;by_cases hlt:k<l.length
  .have⟨x,hx⟩:=Vb hlt
   obtain⟨b',o,rfl,hc⟩:=eL.at (i:=k) (r:=x.cs) (by rw[Uv,hx];rfl);have c0:(w.alloc (G #[U (some (O b' o)) l.length ca,U b zn cb,U c ln cc] 27)).cell? (O b' (o+k*9))=some (I x.name):=hc 0 _ rfl;clear hc;cases hb:(x.name.toList==s.toList)
   .have HR:Hid (∀j,j<k+1->∀x,l[j]? =some x->(x.name.toList==s.toList)=false):=λj hj y hy=>by
     by_cases e:j=k
     .subst e;rw[hx]at hy;obtain rfl:=Uw hy;exact hb
     .exact ak.out j Q y hy
    generalize x.name=nm at *;go_wp2;go_round
    .exact⟨k+1,Q,Z7,HR⟩
    .simp[intOf];omega
   .have HR:Hid ((l.any λx=>x.name.toList==s.toList)=true):=jmr hx hb
    generalize x.name=nm at *;go_wp2;go_ret;exact⟨TS HR.out.symm,hB⟩
  .have e:k=l.length:=Q
   subst e;have HR:Hid ((l.any λx=>x.name.toList==s.toList)=false):=jsl ak.out;go_wp2;go_ret;exact⟨TS HR.out.symm,hB⟩
theorem jon(l:List UE)(a:Option Addr)(cap:Nat)(w:World)(hA:Zo w a l)(hok:∀r∈l,r.ok)(hl:l.length<=1048576):
  C 119 #[U a l.length cap,.func (.func 120) #[] #[]] w λe w'=>e=V (Z (l.all VE))/\Bw w w':=by
 delta C;go_in;go_wp2;go_loopw [9] (λi wr=>∃k:Nat,k<=l.length/\i=J k/\Hid (∀j,j<k->∀x,l[j]? =some x->VE x=true)/\Bw w wr) (λi _=>l.length-(intOf i).toNat)
 .exact⟨0,Q,rfl,λj hj=>Q,Ui _ _⟩
 ·
  obtain⟨k,hk,rfl,ak,hB⟩:=hrel;by_cases hlt:k<l.length
  .have⟨r,hr⟩:=Vb hlt
   obtain⟨b,o,rfl,c0,v,c1,hv⟩:=(hA.below hB).at hr;have ok:=hok r (UH hr);have hS:=λo=>jj9 r v (wr.alloc o) (hv.below (TK _ o)) ok
   obtain⟨ae,ce,rfl,_⟩:=hv;generalize r.TR.length=en at *;cases hb:VE r
   .have HR:Hid (l.all VE=false):=jg5 hr hb
    rw[hb]at hS;clear hb;go_wp2_with fail;refine(hS _).mono ?_;rintro e w2 ⟨rfl,ac⟩;go_wp2;go_ret;exact⟨TS HR.out.symm,(hB.alloc hB.size _).trans (ac.mono (by simp;have:=hB.size;omega))⟩
   .have HR:Hid (∀j,j<k+1->∀x,l[j]? =some x->VE x=true):=λj hj x hx=>by
     by_cases e:j=k
     .subst e;rw[hr]at hx;obtain rfl:=Uw hx;exact hb
     .exact ak.out j Q x hx
    rw[hb]at hS;clear hb;go_wp2_with fail;refine(hS _).mono ?_;rintro e w2 ⟨rfl,ac⟩;go_wp2;go_roundw
    .exact⟨k+1,Q,Z7,HR,(hB.alloc hB.size _).trans (ac.mono (by simp;have:=hB.size;omega))⟩
    .simp[intOf];omega
  .have e:k=l.length:=Q
   subst e;have HR:Hid (l.all VE=true):=jed ak.out;go_wp2;go_ret;exact⟨TS HR.out.symm,hB⟩
def vac(rs:List Ud)(e:TX):Bool:=(e.Tw.toList.isEmpty || (decide (e.TF=0)&&hasB rs e.Tw))&&(Uk e.TI (-86400) 86400&&(Uk e.TF (-7200) 7200&&(Ya e.Uz&&(Uk e.Ua (-62135596800) 253402300799&&Zu e.of))))
theorem jlu(n:Int)(w:World):
  C 92 #[J n] w λe w'=>e=V (Z (Uk n (-62135596800) 253402300799))/\w'=w:=by
 delta C;go_in;go_wp2_with (go_at_call 25;refine(Yz _ _ _ _).mono ?_;rintro e w' ⟨rfl,rfl⟩);go_ret;exact⟨rfl,rfl⟩
theorem jpr(r:Un)(v:Value)(e:TX)(w:World)(hv:Zd w v r)(ok:e.ok)(hl:r.Tw.length<=1048576):
  C 98 #[v,e.v] w λx w'=>x=V (Z (vac r.Tw e))/\Bw w w':=by
 have ag:=λo o2=>(TK w o).alloc M o2
 have hR:=λs o o2=>jlt r v s ((w.alloc o).alloc o2) (hv.below (ag o o2)) hl
 obtain⟨a,b,c,ca,cb,cc,rfl,_,_,_⟩:=hv.form;generalize r.Tw.length=rn at *;generalize r.TC.length=zn at *;generalize r.TG.length=ln at *;clear hv;obtain⟨TI,Tw,TF,Uz,Ua,of⟩:=e;have⟨k1,k2,k3⟩:=ok;simp only[TX.v,vac]at *;have h1:=λw=>Yz TI (-86400) 86400 w
 have h2:=λw=>jgr TF w
 have h3:=λw=>jjz Uz w k2
 have h4:=λw=>jlu Ua w
 have h5:=λw=>jku of w
 have dn:=hR Tw;clear hR;generalize hasB r.Tw Tw=q at *;generalize Uk TI (-86400) 86400=b1 at *;generalize Uk TF (-7200) 7200=b2 at *;generalize Ya Uz=b3 at *;generalize Uk Ua (-62135596800) 253402300799=b4 at *;generalize Zu of=b5 at *;cases he:Tw.toList.isEmpty
 .by_cases hs:TF=0
  .subst hs
   cases q
   .delta C;go_in
    go_wp2_with fail;refine(dn _ _).mono ?_;rintro e w1 ⟨rfl,hb1⟩;go_wp2;go_ret;exact⟨TS M,(ag _ _).trans (hb1.mono Z6)⟩
   .delta C;go_in
    go_wp2_with fail;refine(dn _ _).mono ?_;rintro e w1 ⟨rfl,hb1⟩;have⟨hc,_⟩:=Uq hb1;have hlt:w.heap.size+1<w1.heap.size:=by have:=hb1.size;simp at this;omega
    have aj:=(ag _ _).trans (hb1.mono Z6);go_wp2_with fail;refine(h1 _).mono ?_;rintro e w9 ⟨rfl,rfl⟩;cases b1
    case false=>
     go_wp2;go_ret;exact⟨TS M,aj⟩
    go_wp2_with fail;refine(h2 _).mono ?_;rintro e w9 ⟨rfl,rfl⟩;cases b2
    case false=>
     go_wp2;go_ret;exact⟨TS M,aj⟩
    go_wp2_with fail;refine(h3 _).mono ?_;rintro e w9 ⟨rfl,rfl⟩;cases b3
    case false=>
     go_wp2;go_ret;exact⟨TS M,aj⟩
    go_wp2_with fail;refine(h4 _).mono ?_;rintro e w9 ⟨rfl,rfl⟩;cases b4
    case false=>
     go_wp2;go_ret;exact⟨TS M,aj⟩
    go_wp2_with fail;refine(h5 _).mono ?_;rintro e w9 ⟨rfl,rfl⟩;go_wp2;go_ret;exact⟨TS M,aj⟩
  .have Cw:(TF != 0)=true:=by simpa using hs
   delta C;go_in;go_wp2;go_ret;exact⟨TS (by simp[hs]),ag _ _⟩
 .delta C;go_in
  go_wp2_with fail;refine(h1 _).mono ?_;rintro e w9 ⟨rfl,rfl⟩;cases b1
  case false=>
   go_wp2;go_ret;exact⟨TS M,ag _ _⟩
  go_wp2_with fail;refine(h2 _).mono ?_;rintro e w9 ⟨rfl,rfl⟩;cases b2
  case false=>
   go_wp2;go_ret;exact⟨TS M,ag _ _⟩
  go_wp2_with fail;refine(h3 _).mono ?_;rintro e w9 ⟨rfl,rfl⟩;cases b3
  case false=>
   go_wp2;go_ret;exact⟨TS M,ag _ _⟩
  go_wp2_with fail;refine(h4 _).mono ?_;rintro e w9 ⟨rfl,rfl⟩;cases b4
  case false=>
   go_wp2;go_ret;exact⟨TS M,ag _ _⟩
  go_wp2_with fail;refine(h5 _).mono ?_;rintro e w9 ⟨rfl,rfl⟩;go_wp2;go_ret;exact⟨TS M,ag _ _⟩
def Jm(w:World)(a:Option Addr)(ss:List ByteArray):Prop:=
 ss=[]\/∃b o,a=some (O b o)/\∀i s,ss[i]? =some s->w.cell? (O b (o+i))=some (I s)
theorem Jm.at(h:Jm w a ss){i:Nat}{s:ByteArray}(hi:ss[i]? =some s):∃b o,a=some (O b o)/\w.cell? (O b (o+i))=some (I s):=by
 rcases h with rfl|⟨b,o,ha,hc⟩
 .simp at hi
 .exact⟨b,o,ha,hc i s hi⟩
theorem Jm.below(h:Jm w a ss)(hb:Bw w w'):Jm w' a ss:=by
 rcases h with h|⟨b,o,ha,hc⟩
 .exact .inl h
 .exact .inr ⟨b,o,ha,λi s hi=>by
   have:=hc i s hi
   rw[(Uq hb).1 _ _ (TV this)];exact this⟩
theorem Jm.take(h:Jm w a ss)(n:Nat):Jm w a (ss.take n):=by
 rcases h with rfl|⟨b,o,ha,hc⟩
 .exact .inl M
 .exact .inr ⟨b,o,ha,λi s hi=>hc i s (by rw[List.getElem?_take]at hi;split at hi<;>simp_all)⟩
def Xa(ss:List ByteArray)(t:ByteArray):Bool:=ss.any λs=>s.toList==t.toList
theorem jkv(l:List ByteArray)(a:Option Addr)(cap:Nat)(t:ByteArray)(w:World)(hA:Jm w a l)(hl:l.length<=1048576):
  C 58 #[U a l.length cap,I t] w λe w'=>e=V (Z (Xa l t))/\w'=w:=by
 unfold Xa;delta C;go_in;go_wp2;go_loop [5] (λi=>∃k:Nat,k<=l.length/\i=J k/\Hid (∀j,j<k->∀x,l[j]? =some x->(x.toList==t.toList)=false)) (λi=>l.length-(intOf i).toNat)
 .exact⟨0,Q,rfl,λj hj=>Q⟩
 ·
  obtain⟨k,hk,rfl,ak⟩:=hrel;by_cases hlt:k<l.length
  .have⟨x,hx⟩:=Vb hlt
   obtain⟨b,o,rfl,c0⟩:=hA.at hx;cases hb:(x.toList==t.toList)
   .have HR:Hid (∀j,j<k+1->∀x,l[j]? =some x->(x.toList==t.toList)=false):=λj hj y hy=>by
     by_cases e:j=k
     .subst e;rw[hx]at hy;obtain rfl:=Uw hy;exact hb
     .exact ak.out j Q y hy
    go_wp2;go_round
    .exact⟨k+1,Q,Z7,HR⟩
    .simp[intOf];omega
   .have HR:Hid ((l.any λx=>x.toList==t.toList)=true):=jmr hx hb
    go_wp2;go_ret;exact⟨TS HR.out.symm,rfl⟩
  .have e:k=l.length:=Q
   subst e;have HR:Hid ((l.any λx=>x.toList==t.toList)=false):=jsl ak.out;go_wp2;go_ret;exact⟨TS HR.out.symm,rfl⟩
theorem jts(r:Ud)(p:Nat)(s:ByteArray)(w:World)(hp:w.cell? (O p 1)=some (I s)):
  C 171 #[r.v,.pointer (some (O p 0))] w λe w'=>e=V (Z (r.name.toList==s.toList))/\Bw w w':=by
 have hlt:=TV hp;have az:p≠w.heap.size:=by simp at hlt;omega
 obtain⟨name,lo,hi,UB,on,at_,of,TF,Uc⟩:=r;simp only[Ud.v]at *;delta C;go_in;go_wp2;go_ret;exact⟨rfl,TK _ _⟩
theorem jkg(l:List Ud)(a:Option Addr)(cap p:Nat)(s:ByteArray)(w:World)(hA:Za w a 9 (l.map Ud.cs))(hl:l.length<=1048576)(hp:w.cell? (O p 1)=some (I s)):
  C 218 #[U a l.length cap,.func (.func 171) #[] #[.pointer (some (O p 0))]] w λe w'=>(∃n:Int,e=V (J n)/\decide (0<=n)=hasB l s)/\Bw w w':=by
 unfold hasB;delta C;go_in;go_wp2;go_loopw [8] (λi wr=>∃k:Nat,k<=l.length/\i=J k/\Hid (∀j,j<k->∀x,l[j]? =some x->(x.name.toList==s.toList)=false)/\Bw w wr) (λi _=>l.length-(intOf i).toNat)
 .exact⟨0,Q,rfl,λj hj=>Q,Ui _ _⟩
 ·
  obtain⟨k,hk,rfl,ak,hB⟩:=hrel;by_cases hlt:k<l.length
  .have⟨r,hr⟩:=Vb hlt
   obtain⟨b,o,rfl,hc⟩:=(hA.below hB).at (i:=k) (r:=r.cs) (by rw[Uv,hr];rfl);have c0:wr.cell? (O b (o+k*9))=some (I r.name):=hc 0 _ rfl;have c1:=hc 1 _ rfl;have c2:=hc 2 _ rfl;have c3:=hc 3 _ rfl;have c4:=hc 4 _ rfl;have c5:=hc 5 _ rfl;have c6:=hc 6 _ rfl;have c7:=hc 7 _ rfl;have c8:=hc 8 _ rfl;clear hc;have hS:=jts r p s wr (by rw[(Uq hB).1 _ _ (TV hp)];exact hp);unfold Ud.v at hS;cases hb:(r.name.toList==s.toList)
   .have HR:Hid (∀j,j<k+1->∀x,l[j]? =some x->(x.name.toList==s.toList)=false):=λj hj x hx=>by
     by_cases e:j=k
     .subst e;rw[hr]at hx;obtain rfl:=Uw hx;exact hb
     .exact ak.out j Q x hx
    rw[hb]at hS;clear hb;go_wp2_with fail;refine hS.mono ?_;rintro e w2 ⟨rfl,ac⟩;go_wp2;go_roundw
    .exact⟨k+1,Q,Z7,HR,(TJ hB ac)⟩
    .simp[intOf];omega
   .have HR:Hid ((l.any λx=>x.name.toList==s.toList)=true):=jmr hr hb
    rw[hb]at hS;clear hb;go_wp2_with fail;refine hS.mono ?_;rintro e w2 ⟨rfl,ac⟩;go_wp2;go_ret;exact⟨⟨_,rfl,by rw[HR.out];simp⟩,(TJ hB ac)⟩
  .have e:k=l.length:=Q
   subst e;have HR:Hid ((l.any λx=>x.name.toList==s.toList)=false):=jsl ak.out;go_wp2;go_ret;exact⟨⟨_,rfl,by rw[HR.out];rfl⟩,hB⟩
theorem jgh(l:List Ud)(a:Option Addr)(cap p:Nat)(s:ByteArray)(w:World)(hA:Za w a 9 (l.map Ud.cs))(hl:l.length<=1048576)(hp:w.cell? (O p 1)=some (I s)):
  C 172 #[U a l.length cap,.func (.func 171) #[] #[.pointer (some (O p 0))]] w λe w'=>e=V (Z (hasB l s))/\Bw w w':=by
 have hI:=jkg l a cap p s w hA hl hp;generalize hasB l s=q at *;delta C;go_in;go_wp2_with fail;refine hI.mono ?_;rintro e w1 ⟨⟨n,rfl,hn⟩,hb⟩;go_wp2;go_ret;exact⟨TS M,hb⟩
def Xk(l:List UE)(s:ByteArray):Bool:=l.any λx=>x.name.toList==s.toList
theorem jql(r:UE)(v:Value)(p:Nat)(s:ByteArray)(w:World)(hp:w.cell? (O p 0)=some (I s)):
  C 173 #[.agg #[I r.name,v],.pointer (some (O p 0))] w λe w'=>e=V (Z (r.name.toList==s.toList))/\Bw w w':=by
 have hlt:=TV hp;have az:p≠w.heap.size:=by simp at hlt;omega
 delta C;go_in;go_wp2;go_ret;exact⟨rfl,TK _ _⟩
theorem jkf(l:List UE)(a:Option Addr)(cap p:Nat)(s:ByteArray)(w:World)(hA:Zo w a l)(hl:l.length<=1048576)(hp:w.cell? (O p 0)=some (I s)):
  C 219 #[U a l.length cap,.func (.func 173) #[] #[.pointer (some (O p 0))]] w λe w'=>(∃n:Int,e=V (J n)/\decide (0<=n)=Xk l s)/\Bw w w':=by
 unfold Xk;delta C;go_in;go_wp2;go_loopw [8] (λi wr=>∃k:Nat,k<=l.length/\i=J k/\Hid (∀j,j<k->∀x,l[j]? =some x->(x.name.toList==s.toList)=false)/\Bw w wr) (λi _=>l.length-(intOf i).toNat)
 .exact⟨0,Q,rfl,λj hj=>Q,Ui _ _⟩
 ·
  obtain⟨k,hk,rfl,ak,hB⟩:=hrel;by_cases hlt:k<l.length
  .have⟨r,hr⟩:=Vb hlt
   obtain⟨b,o,rfl,c0,v,c1,hv⟩:=(hA.below hB).at hr;have hS:=jql r v p s wr (by rw[(Uq hB).1 _ _ (TV hp)];exact hp);obtain⟨ae,ce,rfl,_⟩:=hv;generalize r.TR.length=en at *;cases hb:(r.name.toList==s.toList)
   .have HR:Hid (∀j,j<k+1->∀x,l[j]? =some x->(x.name.toList==s.toList)=false):=λj hj x hx=>by
     by_cases e:j=k
     .subst e;rw[hr]at hx;obtain rfl:=Uw hx;exact hb
     .exact ak.out j Q x hx
    rw[hb]at hS;clear hb;go_wp2_with fail;refine hS.mono ?_;rintro e w2 ⟨rfl,ac⟩;go_wp2;go_roundw
    .exact⟨k+1,Q,Z7,HR,(TJ hB ac)⟩
    .simp[intOf];omega
   .have HR:Hid ((l.any λx=>x.name.toList==s.toList)=true):=jmr hr hb
    rw[hb]at hS;clear hb;go_wp2_with fail;refine hS.mono ?_;rintro e w2 ⟨rfl,ac⟩;go_wp2;go_ret;exact⟨⟨_,rfl,by rw[HR.out];simp⟩,(TJ hB ac)⟩
  .have e:k=l.length:=Q
   subst e;have HR:Hid ((l.any λx=>x.name.toList==s.toList)=false):=jsl ak.out;go_wp2;go_ret;exact⟨⟨_,rfl,by rw[HR.out];rfl⟩,hB⟩
theorem jgg(l:List UE)(a:Option Addr)(cap p:Nat)(s:ByteArray)(w:World)(hA:Zo w a l)(hl:l.length<=1048576)(hp:w.cell? (O p 0)=some (I s)):
  C 174 #[U a l.length cap,.func (.func 173) #[] #[.pointer (some (O p 0))]] w λe w'=>e=V (Z (Xk l s))/\Bw w w':=by
 have hI:=jkf l a cap p s w hA hl hp;generalize Xk l s=q at *;delta C;go_in;go_wp2_with fail;refine hI.mono ?_;rintro e w1 ⟨⟨n,rfl,hn⟩,hb⟩;go_wp2;go_ret;exact⟨TS M,hb⟩
theorem ji1(r:Un)(v:Value)(w:World)(hv:Zd w v r)(hz:r.TC.length<=1048576)(hl:r.TG.length<=1048576):
  C 125 #[v] w λe w'=>e=V (Z (r.TG.all λx=>Xk r.TC x.UQ))/\Bw w w':=by
 obtain⟨a,b,c,ca,cb,cc,rfl,_,hZ,hA⟩:=hv.form;clear hv;generalize r.Tw.length=rn at *;generalize r.TG=l at *;generalize r.TC=zs at *;have ag:=TK w (G #[U a rn ca,U b zs.length cb,U c l.length cc] 27);have eL:=hA.below ag;have j8:=hZ.below ag;have ai:(w.alloc (G #[U a rn ca,U b zs.length cb,U c l.length cc] 27)).cell? (O w.heap.size 1)=some (U b zs.length cb):=M;delta C;go_in;go_wp2;generalize hW:(w.alloc (G #[U a rn ca,U b zs.length cb,U c l.length cc] 27))=W at *;go_loopw [9] (λi wr=>∃k:Nat,k<=l.length/\i=J k/\Hid (∀j,j<k->∀x,l[j]? =some x->Xk zs x.UQ=true)/\Bw W wr) (λi _=>l.length-(intOf i).toNat)
 .exact⟨0,Q,rfl,λj hj=>Q,by subst hW;exact Ui _ _⟩
 ·
  obtain⟨k,hk,rfl,ak,hB⟩:=hrel;have hT:Bw w wr:=TJ ag hB;have ho:wr.cell? (O w.heap.size 1)=some (U b zs.length cb):=by rw[(Uq hB).1 _ _ (TV ai)];exact ai
  by_cases hlt:k<l.length
  .have⟨x,hx⟩:=Vb hlt
   obtain⟨b',o,rfl,hc⟩:=(eL.below hB).at (i:=k) (r:=x.cs) (by rw[Uv,hx];rfl);have c0:wr.cell? (O b' (o+k*2))=some (I x.UQ):=hc 0 _ rfl;have c1:=hc 1 _ rfl;clear hc;have rv:=TV ho;have an:Bw W (wr.alloc (G #[I x.UQ,I x.name] 124)):=hB.alloc hB.size _;have hS:=jgg zs b cb wr.heap.size x.UQ (wr.alloc (G #[I x.UQ,I x.name] 124)) (j8.below an) hz M;cases hb:Xk zs x.UQ
   .have HR:Hid ((l.all λx=>Xk zs x.UQ)=false):=jg5 hx hb
    rw[hb]at hS;clear hb;go_wp2_with fail;refine hS.mono ?_;rintro e w2 ⟨rfl,ac⟩;go_wp2;go_ret;exact⟨TS HR.out.symm,ag.trans ((TJ an ac).mono ag.size)⟩
   .have HR:Hid (∀j,j<k+1->∀x,l[j]? =some x->Xk zs x.UQ=true):=λj hj y hy=>by
     by_cases e:j=k
     .subst e;rw[hx]at hy;obtain rfl:=Uw hy;exact hb
     .exact ak.out j Q y hy
    rw[hb]at hS;clear hb;go_wp2_with fail;refine hS.mono ?_;rintro e w2 ⟨rfl,ac⟩;go_wp2;go_roundw
    .exact⟨k+1,Q,Z7,HR,(TJ an ac)⟩
    .simp[intOf];omega
  .have e:k=l.length:=Q
   subst e;have HR:Hid ((l.all λx=>Xk zs x.UQ)=true):=jed ak.out;go_wp2;go_ret;exact⟨TS HR.out.symm,hT⟩
def Xt(rs:List Ud)(e:TX):Bool:=e.Tw.toList.isEmpty || hasB rs e.Tw
theorem ji6(r:Un)(v:Value)(w:World)(hv:Zd w v r)(hr:r.Tw.length<=1048576)(hz:r.TC.length<=1048576)(hok:∀x∈r.TC,x.ok):
  C 124 #[v] w λe w'=>e=V (Z (r.TC.all λz=>z.TR.all (Xt r.Tw)))/\Bw w w':=by
 obtain⟨a,b,c,ca,cb,cc,rfl,hR,hA,_⟩:=hv.form;clear hv;generalize r.Tw=rs at *;generalize r.TG.length=ln at *;generalize r.TC=l at *;have ag:=TK w (G #[U a rs.length ca,U b l.length cb,U c ln cc] 27);have eL:=hA.below ag;have dn:=hR.below ag;have ai:(w.alloc (G #[U a rs.length ca,U b l.length cb,U c ln cc] 27)).cell? (O w.heap.size 0)=some (U a rs.length ca):=M;delta C;go_in;go_wp2;generalize hW:(w.alloc (G #[U a rs.length ca,U b l.length cb,U c ln cc] 27))=W at *;go_loopw [11] (λi wr=>∃k:Nat,k<=l.length/\i=J k/\Hid (∀j,j<k->∀x,l[j]? =some x->x.TR.all (Xt rs)=true)/\Bw W wr) (λi _=>l.length-(intOf i).toNat)
 .exact⟨0,Q,rfl,λj hj=>Q,by subst hW;exact Ui _ _⟩
 ·
  obtain⟨k,hk,rfl,ak,hB⟩:=hrel;have hT:Bw w wr:=TJ ag hB;by_cases hlt:k<l.length
  .have⟨x,hx⟩:=Vb hlt
   obtain⟨b',o,rfl,c0,v,c1,hv⟩:=(eL.below hB).at hx;have ok:=(hok x (UH hx)).2.1;obtain⟨ae,ce,rfl,hE⟩:=hv;unfold maxLen at ok;obtain⟨nm,es⟩:=x;simp only at *;have an:Bw W (wr.alloc (G #[I nm,U ae es.length ce] 121)):=hB.alloc hB.size _;have pB:Za (wr.alloc (G #[I nm,U ae es.length ce] 121)) ae 6 (es.map TX.cs):=hE.below (TK _ _);go_wp2;generalize hV:(wr.alloc (G #[I nm,U ae es.length ce] 121))=Tu at *;obtain⟨wo,rfl⟩:=UL wr;go_loopw [18] (λi wr=>∃m:Nat,m<=es.length/\i=J m/\Hid (∀j,j<m->∀x,es[j]? =some x->Xt rs x=true)/\Bw Tu wr) (λi _=>es.length-(intOf i).toNat)
   .exact⟨0,Q,rfl,λj hj=>Q,by subst hV;exact Ui _ _⟩
   ·
    obtain⟨m,hm,rfl,oq,hC⟩:=hrel;have nQ:Bw W wr:=TJ an hC;have ho:wr.cell? (O w.heap.size 0)=some (U a rs.length ca):=by rw[(Uq nQ).1 _ _ (TV ai)];exact ai
    by_cases hlt2:m<es.length
    .have⟨y,hy⟩:=Vb hlt2
     obtain⟨b2,o2,rfl,hc⟩:=(pB.below hC).at (i:=m) (r:=y.cs) (by rw[Uv,hy];rfl);have d0:wr.cell? (O b2 (o2+m*6))=some (J y.TI):=hc 0 _ rfl;have d1:=hc 1 _ rfl;have d2:=hc 2 _ rfl;have d3:=hc 3 _ rfl;have d4:=hc 4 _ rfl;have d5:=hc 5 _ rfl;clear hc;have rv:=TV ho;have ax:Bw W (wr.alloc (G #[J y.TI,I y.Tw,J y.TF,I y.Uz,J y.Ua,I y.of] 159)):=nQ.alloc nQ.size _;have F7:Bw Tu (wr.alloc (G #[J y.TI,I y.Tw,J y.TF,I y.Uz,J y.Ua,I y.of] 159)):=hC.alloc hC.size _;have hS:=jgh rs a ca wr.heap.size y.Tw (wr.alloc (G #[J y.TI,I y.Tw,J y.TF,I y.Uz,J y.Ua,I y.of] 159)) (dn.below ax) hr M;have jl:Xt rs y=true->Hid (∀j,j<m+1->∀x,es[j]? =some x->Xt rs x=true):=λhb j hj z hz=>by
      by_cases e:j=m
      .subst e;rw[hy]at hz;obtain rfl:=Uw hz;exact hb
      .exact oq.out j Q z hz
     have lF:Xt rs y=false->Hid ((l.all λz=>z.TR.all (Xt rs))=false):=λhb=>jg5 hx (jg5 hy hb)
     unfold Xt at jl lF;cases he:y.Tw.toList.isEmpty
     .cases hb:hasB rs y.Tw
      .have HR:=lF (by rw[he,hb];rfl)
       rw[hb]at hS;clear hb jl lF;go_wp2_with fail;refine hS.mono ?_;rintro e w2 ⟨rfl,ac⟩;go_wp2;go_ret;exact⟨TS HR.out.symm,ag.trans ((TJ ax ac).mono ag.size)⟩
      .have HR:=jl (by rw[he,hb];rfl)
       rw[hb]at hS;clear hb jl lF;go_wp2_with fail;refine hS.mono ?_;rintro e w2 ⟨rfl,ac⟩;go_wp2;go_roundw
       .exact⟨m+1,Q,Z7,HR,(TJ F7 ac)⟩
       .simp[intOf];omega
     .have HR:=jl (by rw[he];rfl)
      clear hS jl lF;go_wp2;go_roundw
      .exact⟨m+1,Q,Z7,HR,F7⟩
      .simp[intOf];omega
    .have e:m=es.length:=Q
     subst e;have HR:Hid (∀j,j<k+1->∀x,l[j]? =some x->x.TR.all (Xt rs)=true):=λj hj z hz=>by
      by_cases e:j=k
      .subst e;rw[hx]at hz;obtain rfl:=Uw hz;exact jed oq.out
      .exact ak.out j Q z hz
     go_wp2;go_roundw
     .exact⟨k+1,Q,Z7,HR,nQ⟩
     .simp[intOf];omega
  .have e:k=l.length:=Q
   subst e;have HR:Hid ((l.all λz=>z.TR.all (Xt rs))=true):=jed ak.out;go_wp2;go_ret;exact⟨TS HR.out.symm,hT⟩
