import Derived.Test.YtpejeokacilebaaGreatDoorOnPd
import Derived.Test.YtpejeokacilebaaGreatDoorRelPd
set_option maxHeartbeats 0
set_option linter.unusedSimpArgs false
open Go.RowKit
namespace Go.Proofs.YtpejeokacilebaaGreatDoor
def ofB(s:ByteArray):Bool:=(s.toList==[119]) || ((s.toList==[115]) || (s.toList==[117]))
theorem jgz(s:ByteArray)(w:World):
  Cl 135 #[.string s] w fun e w'=>e=.returned (.bool (ofB s))/\w'=w:=by
 unfold ofB
 cases h1:(s.toList==[119])
 ·cases h2:(s.toList==[115])
  ·unfold Cl;go_in
   go_wp2
   go_ret
   exact⟨ret_bool (by simp),rfl⟩
  ·unfold Cl;go_in
   go_wp2
   go_ret
   exact⟨ret_bool (by simp),rfl⟩
 ·unfold Cl;go_in
  go_wp2
  go_ret
  exact⟨ret_bool (by simp),rfl⟩
theorem jku(s:ByteArray)(w:World):
  Cl 63 #[.string s] w fun e w'=>e=.returned (.bool (ofB s))/\w'=w:=by
 unfold ofB
 cases h1:(s.toList==[119])
 ·cases h2:(s.toList==[115])
  ·unfold Cl;go_in
   go_wp2
   go_ret
   exact⟨ret_bool (by simp),rfl⟩
  ·unfold Cl;go_in
   go_wp2
   go_ret
   exact⟨ret_bool (by simp),rfl⟩
 ·unfold Cl;go_in
  go_wp2
  go_ret
  exact⟨ret_bool (by simp),rfl⟩
theorem je2(n:Int)(w:World):
  Cl 136 #[iv n] w fun e w'=>e=.returned (.bool (isB n (-7200) 7200))/\w'=w:=by
 by_cases h: -7200<=n
 ·unfold Cl;go_in
  go_wp2
  go_ret
  exact⟨ret_bool (by unfold isB;simp[h]),rfl⟩
 ·unfold Cl;go_in
  go_wp2
  go_ret
  exact⟨ret_bool (jj8 (by omega)).symm,rfl⟩
theorem jgr(n:Int)(w:World):
  Cl 64 #[iv n] w fun e w'=>e=.returned (.bool (isB n (-7200) 7200))/\w'=w:=by
 unfold Cl;go_in
 go_wp2_with (go_at_call 13;refine(jau _ _ _ _).mono ?_;rintro e w' ⟨rfl,rfl⟩)
 go_ret
 exact⟨rfl,rfl⟩
theorem je0(n:Int)(w:World):
  Cl 133 #[iv n] w fun e w'=>e=.returned (.bool (isB n 1 9999))/\w'=w:=by
 by_cases h:1<=n
 ·unfold Cl;go_in
  go_wp2
  go_ret
  exact⟨ret_bool (by unfold isB;simp[h]),rfl⟩
 ·unfold Cl;go_in
  go_wp2
  go_ret
  exact⟨ret_bool (jj8 (by omega)).symm,rfl⟩
def lbB(c:Int):Bool:=letB c || (c==43 || c==45)
def ltB(s:ByteArray):Bool:=decide (s.size<=6)&&(!(s.toList==[45])&&decide (∀i,i<s.size->lbB (jae s i)=true))
theorem j3i{s:ByteArray}(h:6<s.size):ltB s=false:=by unfold ltB;rw[dfe (by omega)];rfl
theorem j3h{s:ByteArray}(h:(s.toList==[45])=true):ltB s=false:=by unfold ltB;rw[h];simp
theorem j07{s:ByteArray}{k:Nat}(hk:k<s.size)(h:lbB (jae s k)=false):ltB s=false:=by
 unfold ltB
 have:decide (∀i,i<s.size->lbB (jae s i)=true)=false:=dfe fun hn=>by rw[hn k hk]at h;cases h
 rw[this];simp
theorem j08{s:ByteArray}(h:∀i,i<s.size->lbB (jae s i)=true):ltB s=(decide (s.size<=6)&& !(s.toList==[45])):=by
 unfold ltB;rw[dte h];simp
theorem j3l{c:Int}(h:lbB c=false):letB c=false/\(c != 43)=true/\(c != 45)=true:=by
 unfold lbB at h;simp at h;simpa using h
theorem jhf(s:ByteArray)(w:World)(hs:s.size<=maxLen):
  Cl 137 #[.string s] w fun e w'=>e=.returned (.bool (ltB s))/\w'=w:=by
 unfold maxLen at hs
 by_cases h6:6<s.size
 ·rw[j3i h6]
  unfold Cl;go_in
  go_wp2
  go_ret
  exact⟨rfl,rfl⟩
 cases hm:(s.toList==[45])
 ·unfold Cl;go_in
  go_wp2
  go_loop [14] (fun i=>∃k:Nat,k<=s.size/\i=iv k/\Hid (∀j,j<k->lbB (jae s j)=true)) (fun i=>s.size-(intOf i).toNat)
  case atStart=>exact⟨0,by omega,rfl,upto_zero⟩
  case round=>
   obtain⟨k,hk,rfl,ak⟩:=hrel
   by_cases hlt:k<s.size
   ·have hB:=fun w=>jcq (jae s k) w
    have e:=jai s k hlt
    cases hb:lbB (jae s k)
    ·have HB:Hid (ltB s=false):=j07 hlt hb
     obtain⟨g1,g2,g3⟩:=j3l hb
     rw[g1, <- e]at hB
     rw[<- e]at g2 g3
     clear hb e g1
     go_wp2_with (go_at_call 146;refine(hB _).mono ?_;rintro e w' ⟨rfl,rfl⟩)
     go_ret
     exact⟨ret_bool HB.out.symm,rfl⟩
    ·have HB:Hid (∀j,j<k+1->lbB (jae s j)=true):=jbi ak.out hb
     unfold lbB at hb
     cases g1:letB (jae s k)
     ·rw[g1]at hb hB
      simp at hb
      rw[<- e]at hB hb
      by_cases g2:(s[k].toNat:Int)=43
      ·have ke:((s[k].toNat:Int) != 43)=false:=by simp[g2]
       clear e g1 hb g2
       go_wp2_with (go_at_call 146;refine(hB _).mono ?_;rintro e w' ⟨rfl,rfl⟩)
       go_round
       case rel=>exact⟨k+1,by omega,by go_num,HB⟩
       case measure=>simp[intOf];omega
      ·have ke:((s[k].toNat:Int) != 43)=true:=by simpa using g2
       have J0:((s[k].toNat:Int) != 45)=false:=by simp;omega
       clear e g1 hb g2
       go_wp2_with (go_at_call 146;refine(hB _).mono ?_;rintro e w' ⟨rfl,rfl⟩)
       go_round
       case rel=>exact⟨k+1,by omega,by go_num,HB⟩
       case measure=>simp[intOf];omega
     ·rw[g1, <- e]at hB
      clear e g1 hb
      go_wp2_with (go_at_call 146;refine(hB _).mono ?_;rintro e w' ⟨rfl,rfl⟩)
      go_round
      case rel=>exact⟨k+1,by omega,by go_num,HB⟩
      case measure=>simp[intOf];omega
   ·have e:k=s.size:=by omega
    subst e
    have HB:Hid (ltB s=true):=by
     simp only[Hid];rw[j08 ak.out,hm];simp;omega
    go_wp2
    go_ret
    exact⟨ret_bool HB.out.symm,rfl⟩
 ·rw[j3h hm]
  unfold Cl;go_in
  go_wp2
  go_ret
  exact⟨rfl,rfl⟩
theorem jjy(s:ByteArray)(w:World)(hs:s.size<=maxLen):
  Cl 65 #[.string s] w fun e w'=>e=.returned (.bool (ltB s))/\w'=w:=by
 unfold maxLen at hs
 unfold Cl;go_in
 go_wp2
 go_loop [3] (fun i=>∃k:Nat,k<=s.size/\i=iv k/\Hid (∀j,j<k->lbB (jae s j)=true)) (fun i=>s.size-(intOf i).toNat)
 case atStart=>exact⟨0,by omega,rfl,upto_zero⟩
 case round=>
  obtain⟨k,hk,rfl,ak⟩:=hrel
  by_cases hlt:k<s.size
  ·have hB:=fun w=>jcd (jae s k) w
   have e:=jai s k hlt
   cases hb:lbB (jae s k)
   ·have HB:Hid (ltB s=false):=j07 hlt hb
    obtain⟨g1,g2,g3⟩:=j3l hb
    rw[g1, <- e]at hB
    rw[<- e]at g2 g3
    clear hb e g1
    go_wp2_with (go_at_call 67;refine(hB _).mono ?_;rintro e w' ⟨rfl,rfl⟩)
    go_ret
    exact⟨ret_bool HB.out.symm,rfl⟩
   ·have HB:Hid (∀j,j<k+1->lbB (jae s j)=true):=jbi ak.out hb
    unfold lbB at hb
    cases g1:letB (jae s k)
    ·rw[g1]at hb hB
     simp at hb
     rw[<- e]at hB hb
     by_cases g2:(s[k].toNat:Int)=43
     ·have ke:((s[k].toNat:Int) != 43)=false:=by simp[g2]
      clear e g1 hb g2
      go_wp2_with (go_at_call 67;refine(hB _).mono ?_;rintro e w' ⟨rfl,rfl⟩)
      go_round
      case rel=>exact⟨k+1,by omega,by go_num,HB⟩
      case measure=>simp[intOf];omega
     ·have ke:((s[k].toNat:Int) != 43)=true:=by simpa using g2
      have J0:((s[k].toNat:Int) != 45)=false:=by simp;omega
      clear e g1 hb g2
      go_wp2_with (go_at_call 67;refine(hB _).mono ?_;rintro e w' ⟨rfl,rfl⟩)
      go_round
      case rel=>exact⟨k+1,by omega,by go_num,HB⟩
      case measure=>simp[intOf];omega
    ·rw[g1, <- e]at hB
     clear e g1 hb
     go_wp2_with (go_at_call 67;refine(hB _).mono ?_;rintro e w' ⟨rfl,rfl⟩)
     go_round
     case rel=>exact⟨k+1,by omega,by go_num,HB⟩
     case measure=>simp[intOf];omega
  ·have e:k=s.size:=by omega
   subst e
   have HB:Hid (ltB s=(decide (s.size<=6)&& !(s.toList==[45]))):=j08 ak.out
   by_cases h6:s.size<=6
   ·go_wp2
    go_ret
    exact⟨ret_bool (by rw[HB.out];simp[h6]),rfl⟩
   ·go_wp2
    go_ret
    exact⟨ret_bool (by rw[HB.out];simp[h6]),rfl⟩
def Zx(w:World):Prop:=Tab w/\Mx w
theorem Zx.of_below{w w':World}(h:Zx w)(hb:Bw w w'):Zx w':=⟨h.1.of_below hb,h.2.of_below hb⟩
theorem Zx.alloc{w:World}(h:Zx w)(o:Obj):Zx (w.alloc o):=⟨h.1.alloc o,h.2.alloc o⟩
def onB(s:ByteArray):Bool:=jbj 2000 1 s != -1000000
theorem jol(s:ByteArray)(w:World)(hE:Zx w)(hz:s.size<=1048576):
  Cl 134 #[.string s] w fun e w'=>e=.returned (.bool (onB s))/\Bw w w':=by
 have hX:=fun w (h:Zx w)=>joi 2000 1 s w h.1 h.2 hz
 unfold onB
 generalize jbj 2000 1 s=r at *
 unfold Cl;go_in
 go_wp2_with fail
 refine(hX _ hE).mono ?_
 rintro e w1 ⟨rfl,hb⟩
 go_wp2
 go_ret
 exact⟨rfl,hb⟩
theorem jh7(s:ByteArray)(w:World)(hz:s.size<=1048576):
  Cl 62 #[.string s] w fun e w'=>e=.returned (.bool (onB s))/\Bw w w':=by
 have hy:ymB 2000 1=true:=by decide
 have hX:=fun w=>jkw 2000 1 s w hy hz
 have e:jbj 2000 1 s=moV 2000 1 s:=by unfold jbj;rw[hy,if_pos rfl,jig hy]
 unfold onB
 rw[e]
 clear e
 generalize moV 2000 1 s=r at *
 unfold Cl;go_in
 go_wp2_with fail
 refine(hX _).mono ?_
 rintro e w1 ⟨rfl,hb⟩
 go_wp2
 go_ret
 exact⟨rfl,hb⟩
def jaw(r:RuleD):Bool:=jaz r.name&&(isB r.lo 1 9999&&(isB r.hi r.lo 9999&&(isB r.month 1 12&&(onB r.on&&(isB r.at_ 0 604800&&(ofB r.of&&(isB r.save (-7200) 7200&&ltB r.letter)))))))
def jyt(r:RuleD):Bool:=jaz r.name&&(isB r.lo 1 9999&&(isB r.hi 1 9999&&(decide (r.lo<=r.hi)&&(decide (1<=r.month)&&(decide (r.month<=12)&&(onB r.on&&(decide (0<=r.at_)&&(decide (r.at_<=604800)&&(ofB r.of&&(isB r.save (-7200) 7200&&ltB r.letter))))))))))
theorem jvk(r:RuleD):jyt r=jaw r:=by
 unfold jyt jaw
 have e1:isB r.month 1 12=(decide (1<=r.month)&&decide (r.month<=12)):=by unfold isB;simp
 have e2:isB r.at_ 0 604800=(decide (0<=r.at_)&&decide (r.at_<=604800)):=by unfold isB;simp
 have e3:(isB r.lo 1 9999&&(isB r.hi 1 9999&&decide (r.lo<=r.hi)))=(isB r.lo 1 9999&&isB r.hi r.lo 9999):=by
  rw[Bool.eq_iff_iff];unfold isB;simp;omega
 rw[e1,e2]
 have e4:∀x,(isB r.lo 1 9999&&(isB r.hi 1 9999&&(decide (r.lo<=r.hi)&&x)))=(isB r.lo 1 9999&&(isB r.hi r.lo 9999&&x)):=fun x=>by
  rw[<- Bool.and_assoc (isB r.hi 1 9999), <- Bool.and_assoc (isB r.lo 1 9999),e3,Bool.and_assoc]
 rw[e4]
 simp only[Bool.and_assoc]
theorem ji7(r:RuleD)(w:World)(hE:Zx w)(ok:r.ok)(hz:r.on.size<=1048576):
  Cl 97 #[r.v] w fun e w'=>e=.returned (.bool (jyt r))/\Bw w w':=by
 obtain⟨name,lo,hi,month,on,at_,of,save,letter⟩:=r
 obtain⟨k1,k2,k3,k4⟩:=ok
 simp only[RuleD.v,jyt]at *
 have h1:=fun w=>ja7 name w k1
 have h2:=fun w=>je0 lo w
 have h3:=fun w=>je0 hi w
 have h4:=fun w (h:Zx w)=>jol on w h hz
 have h5:=fun w=>jgz of w
 have h6:=fun w=>je2 save w
 have h7:=fun w=>jhf letter w k4
 generalize jaz name=b1 at *
 generalize isB lo 1 9999=b2 at *
 generalize isB hi 1 9999=b3 at *
 generalize onB on=b4 at *
 generalize ofB of=b5 at *
 generalize isB save (-7200) 7200=b6 at *
 generalize ltB letter=b7 at *
 have ag:=fun o=>qal w o
 unfold Cl;go_in
 go_wp2_with fail
 refine(h1 _).mono ?_
 rintro e w9 ⟨rfl,rfl⟩
 cases b1
 case false=>
  go_wp2
  go_ret
  exact⟨ret_bool (by simp),(ag _)⟩
 go_wp2_with fail
 refine(h2 _).mono ?_
 rintro e w9 ⟨rfl,rfl⟩
 cases b2
 case false=>
  go_wp2
  go_ret
  exact⟨ret_bool (by simp),(ag _)⟩
 go_wp2_with fail
 refine(h3 _).mono ?_
 rintro e w9 ⟨rfl,rfl⟩
 cases b3
 case false=>
  go_wp2
  go_ret
  exact⟨ret_bool (by simp),(ag _)⟩
 by_cases g1:lo<=hi
 case neg=>
  go_wp2
  go_ret
  exact⟨ret_bool (by simp;intros;omega),(ag _)⟩
 by_cases g2:1<=month
 case neg=>
  go_wp2
  go_ret
  exact⟨ret_bool (by simp;intros;omega),(ag _)⟩
 by_cases g3:month<=12
 case neg=>
  go_wp2
  go_ret
  exact⟨ret_bool (by simp;intros;omega),(ag _)⟩
 go_wp2_with fail
 refine(h4 _ (hE.alloc _)).mono ?_
 rintro e w1 ⟨rfl,hb1⟩
 obtain⟨hc,_⟩:=jaf hb1
 have hlt:w.heap.size<w1.heap.size:=by have:=hb1.size;simp at this;omega
 have aj:=(ag _).trans (hb1.mono (by simp))
 cases b4
 case false=>
  go_wp2
  go_ret
  exact⟨ret_bool (by simp),aj⟩
 by_cases g4:0<=at_
 case neg=>
  go_wp2
  go_ret
  exact⟨ret_bool (by simp;intros;omega),aj⟩
 by_cases g5:at_<=604800
 case neg=>
  go_wp2
  go_ret
  exact⟨ret_bool (by simp;intros;omega),aj⟩
 go_wp2_with fail
 refine(h5 _).mono ?_
 rintro e w9 ⟨rfl,rfl⟩
 cases b5
 case false=>
  go_wp2
  go_ret
  exact⟨ret_bool (by simp),aj⟩
 go_wp2_with fail
 refine(h6 _).mono ?_
 rintro e w9 ⟨rfl,rfl⟩
 cases b6
 case false=>
  go_wp2
  go_ret
  exact⟨ret_bool (by simp),aj⟩
 go_wp2_with fail
 refine(h7 _).mono ?_
 rintro e w9 ⟨rfl,rfl⟩
 go_wp2
 go_ret
 exact⟨ret_bool (by simp[*]),aj⟩
theorem jm9(r:RuleD)(w:World)(ok:r.ok)(hz:r.on.size<=1048576):
  Cl 30 #[r.v] w fun e w'=>e=.returned (.bool (jaw r))/\Bw w w':=by
 obtain⟨name,lo,hi,month,on,at_,of,save,letter⟩:=r
 obtain⟨k1,k2,k3,k4⟩:=ok
 simp only[RuleD.v,jaw]at *
 have h1:=fun w=>jbu name w k1
 have h2:=fun w=>jna lo w
 have h3:=fun w=>jau hi lo 9999 w
 have h8:=fun w=>jau month 1 12 w
 have h4:=fun w=>jh7 on w hz
 have h9:=fun w=>jau at_ 0 604800 w
 have h5:=fun w=>jku of w
 have h6:=fun w=>jgr save w
 have h7:=fun w=>jjy letter w k4
 generalize jaz name=b1 at *
 generalize isB lo 1 9999=b2 at *
 generalize isB hi lo 9999=b3 at *
 generalize isB month 1 12=b8 at *
 generalize onB on=b4 at *
 generalize isB at_ 0 604800=b9 at *
 generalize ofB of=b5 at *
 generalize isB save (-7200) 7200=b6 at *
 generalize ltB letter=b7 at *
 have ag:=fun o=>qal w o
 unfold Cl;go_in
 go_wp2_with fail
 refine(h1 _).mono ?_
 rintro e w9 ⟨rfl,rfl⟩
 cases b1
 case false=>
  go_wp2
  go_ret
  exact⟨ret_bool (by simp),(ag _)⟩
 go_wp2_with fail
 refine(h2 _).mono ?_
 rintro e w9 ⟨rfl,rfl⟩
 cases b2
 case false=>
  go_wp2
  go_ret
  exact⟨ret_bool (by simp),(ag _)⟩
 go_wp2_with fail
 refine(h3 _).mono ?_
 rintro e w9 ⟨rfl,rfl⟩
 cases b3
 case false=>
  go_wp2
  go_ret
  exact⟨ret_bool (by simp),(ag _)⟩
 go_wp2_with fail
 refine(h8 _).mono ?_
 rintro e w9 ⟨rfl,rfl⟩
 cases b8
 case false=>
  go_wp2
  go_ret
  exact⟨ret_bool (by simp),(ag _)⟩
 go_wp2_with fail
 refine(h4 _).mono ?_
 rintro e w1 ⟨rfl,hb1⟩
 obtain⟨hc,_⟩:=jaf hb1
 have hlt:w.heap.size<w1.heap.size:=by have:=hb1.size;simp at this;omega
 have aj:=(ag _).trans (hb1.mono (by simp))
 cases b4
 case false=>
  go_wp2
  go_ret
  exact⟨ret_bool (by simp),aj⟩
 go_wp2_with fail
 refine(h9 _).mono ?_
 rintro e w9 ⟨rfl,rfl⟩
 cases b9
 case false=>
  go_wp2
  go_ret
  exact⟨ret_bool (by simp),aj⟩
 go_wp2_with fail
 refine(h5 _).mono ?_
 rintro e w9 ⟨rfl,rfl⟩
 cases b5
 case false=>
  go_wp2
  go_ret
  exact⟨ret_bool (by simp),aj⟩
 go_wp2_with fail
 refine(h6 _).mono ?_
 rintro e w9 ⟨rfl,rfl⟩
 cases b6
 case false=>
  go_wp2
  go_ret
  exact⟨ret_bool (by simp),aj⟩
 go_wp2_with fail
 refine(h7 _).mono ?_
 rintro e w9 ⟨rfl,rfl⟩
 go_wp2
 go_ret
 exact⟨ret_bool (by simp[*]),aj⟩
theorem jkc(r:RuleD)(w:World)(hE:Zx w)(ok:r.ok)(hz:r.on.size<=1048576):
  Cl 97 #[r.v] w fun e w'=>e=.returned (.bool (jaw r))/\Bw w w':=by
 rw[<- jvk];exact ji7 r w hE ok hz
def fbB(c:Int):Bool:=letB c || (digB c || (c==43 || (c==45 || (c==37 || c==47))))
def strokes(s:ByteArray):Nat->Int
 |0=>0
 |k+1=>strokes s k+(if jae s k=47 then 1 else 0)
theorem jsx(s:ByteArray)(k:Nat):0<=strokes s k/\strokes s k<=k:=by
 induction k with
 |zero=>simp[strokes]
 |succ k ih=>simp only[strokes];split<;>omega
def fmtB(s:ByteArray):Bool:=decide (1<=s.size/\s.size<=12/\strokes s s.size<=1/\∀i,i<s.size->fbB (jae s i)=true)
theorem jk8{s:ByteArray}(h:¬(1<=s.size/\s.size<=12/\strokes s s.size<=1)):fmtB s=false:=dfe fun hn=>h ⟨hn.1,hn.2.1,hn.2.2.1⟩
theorem jxa{s:ByteArray}{k:Nat}(hk:k<s.size)(h:fbB (jae s k)=false):fmtB s=false:=dfe fun hn=>by rw[hn.2.2.2 k hk]at h;cases h
theorem jw9{s:ByteArray}(h1:1<=s.size)(h2:s.size<=12)(h3:strokes s s.size<=1)(h:∀i,i<s.size->fbB (jae s i)=true):fmtB s=true:=dte ⟨h1,h2,h3,h⟩
theorem jgd(c:Int)(w:World):
  Cl 192 #[.int .u8 c] w fun e w'=>e=.returned (.bool (fbB c))/\w'=w:=by
 have hL:=fun w=>jcq c w
 have hD:=fun w=>jd8 c w
 unfold fbB
 generalize letB c=b1 at *
 generalize digB c=b2 at *
 unfold Cl;go_in
 go_wp2_with fail
 refine(hL _).mono ?_
 rintro e w1 ⟨rfl,rfl⟩
 cases b1
 case true=>
  go_wp2
  go_ret
  exact⟨ret_bool (by simp),rfl⟩
 go_wp2_with fail
 refine(hD _).mono ?_
 rintro e w1 ⟨rfl,rfl⟩
 cases b2
 case true=>
  go_wp2
  go_ret
  exact⟨ret_bool (by simp),rfl⟩
 go_wp2
 all_goals go_ret
 all_goals exact⟨ret_bool (by first|(simp_all;done)|simp[Bool.or_assoc]),rfl⟩
theorem jll(s:ByteArray)(k:Nat)(hk:k<=s.size):strokes s k=((s.data.toList.take k).count 47:Nat):=by
 have hz:s.data.toList.length=s.size:=by rw[Array.length_toList];rfl
 induction k with
 |zero=>simp[strokes]
 |succ k ih=>
  have hlt:k<s.data.toList.length:=by omega
  have e:jae s k=(s.data.toList[k].toNat:Int):=by
   rw[<- jai s k (by omega)];rfl
  rw[List.take_add_one,lgg hlt,List.count_append,strokes,ih (by omega),e]
  by_cases h:s.data.toList[k]=47
  ·rw[h];simp
  ·have h2:¬(s.data.toList[k].toNat:Int)=47:=fun hn=>h (by
    apply UInt8.toNat_inj.mp
    show s.data.toList[k].toNat=47
    omega)
   have hc:List.count 47 [s.data.toList[k]]=0:=List.count_eq_zero_of_not_mem (by simpa using fun hn=>h hn.symm)
   rw[if_neg h2,Option.toList_some,hc]
   simp
theorem jpn(s:ByteArray):(Lib.countByte s.data.toList 47:Int)=strokes s s.size:=by
 have hz:s.data.toList.length=s.size:=by rw[Array.length_toList];rfl
 rw[jll s s.size (nlr _),List.take_of_length_le (by omega)]
 rfl
theorem jhi(s:ByteArray)(w:World)(hs:s.size<=maxLen):
  Cl 164 #[.string s] w fun e w'=>e=.returned (.bool (fmtB s))/\w'=w:=by
 unfold maxLen at hs
 by_cases h1:s.size<1
 ·rw[jk8 (by omega)]
  unfold Cl;go_in
  go_wp2
  go_ret
  exact⟨rfl,rfl⟩
 by_cases h2:12<s.size
 ·rw[jk8 (by omega)]
  unfold Cl;go_in
  go_wp2
  go_ret
  exact⟨rfl,rfl⟩
 have hC:=fun w=>Tryz.strings_Count_one s 47 w
 rw[jpn]at hC
 by_cases h3:1<strokes s s.size
 ·rw[jk8 (by omega)]
  generalize strokes s s.size=n at *
  unfold Cl;go_in
  go_wp2_with (go_at_call 191;refine(hC _).mono ?_;rintro e w' ⟨rfl,rfl⟩)
  go_ret
  exact⟨rfl,rfl⟩
 have sc:Hid (strokes s s.size<=1):=by simp only[Hid];omega
 generalize hn:strokes s s.size=n at hC h3
 unfold Cl;go_in
 go_wp2_with (go_at_call 191;refine(hC _).mono ?_;rintro e w' ⟨rfl,rfl⟩)
 go_loop [19] (fun i=>∃k:Nat,k<=s.size/\i=iv k/\Hid (∀j,j<k->fbB (jae s j)=true)) (fun i=>s.size-(intOf i).toNat)
 case atStart=>exact⟨0,by omega,rfl,upto_zero⟩
 case round=>
  obtain⟨k,hk,rfl,ak⟩:=hrel
  by_cases hlt:k<s.size
  ·have hB:=fun w=>jgd (jae s k) w
   have e:=jai s k hlt
   cases hb:fbB (jae s k)
   ·have HB:Hid (fmtB s=false):=jxa hlt hb
    rw[hb, <- e]at hB
    clear hb e
    go_wp2_with (go_at_call 192;refine(hB _).mono ?_;rintro e w' ⟨rfl,rfl⟩)
    go_ret
    exact⟨ret_bool HB.out.symm,rfl⟩
   ·have HB:Hid (∀j,j<k+1->fbB (jae s j)=true):=jbi ak.out hb
    rw[hb, <- e]at hB
    clear hb e
    go_wp2_with (go_at_call 192;refine(hB _).mono ?_;rintro e w' ⟨rfl,rfl⟩)
    go_round
    case rel=>exact⟨k+1,by omega,by go_num,HB⟩
    case measure=>simp[intOf];omega
  ·have e:k=s.size:=by omega
   subst e
   have HB:Hid (fmtB s=true):=jw9 (by omega) (by omega) sc.out ak.out
   go_wp2
   go_ret
   exact⟨ret_bool HB.out.symm,rfl⟩
theorem jjz (s:ByteArray) (w:World) (hs:s.size<=maxLen):
  Cl 92 #[.string s] w fun e w'=>e=.returned (.bool (fmtB s))/\w'=w:=by
 unfold maxLen at hs
 unfold Cl;go_in
 go_wp2
 go_loop [3,4] (fun x i=>∃k:Nat,k<=s.size/\i=iv k/\x=iv (strokes s k)/\Hid (∀j,j<k->fbB (jae s j)=true)) (fun _ i=>s.size-(intOf i).toNat)
 case atStart=>exact⟨0,by omega,rfl,rfl,upto_zero⟩
 case round=>
  obtain⟨k,hk,rfl,rfl,ak⟩:=hrel
  have sb:=jsx s k
  by_cases hlt:k<s.size
  ·have hL:=fun w=>jcd (jae s k) w
   have hD:=fun w=>jdi (jae s k) w
   have e:=jai s k hlt
   by_cases lU:jae s k=47
   ·have HN:Hid (strokes s (k+1)=strokes s k+1):=by simp only[Hid,strokes];rw[if_pos lU]
    have HB:Hid (∀j,j<k+1->fbB (jae s j)=true):=jbi ak.out (by rw[lU];decide)
    have g:((s[k].toNat:Int)==47)=true:=by rw[e,lU];rfl
    clear e lU hL hD
    go_wp2
    go_round
    case rel=>exact⟨k+1,by omega,by go_num,by rw[HN.out],HB⟩
    case measure=>simp[intOf];omega
   ·have HN:Hid (strokes s (k+1)=strokes s k):=by simp only[Hid,strokes];rw[if_neg lU];omega
    have g:((s[k].toNat:Int)==47)=false:=by rw[e];simpa using lU
    cases hb:fbB (jae s k)
    ·have HB:Hid (fmtB s=false):=jxa hlt hb
     unfold fbB at hb
     simp only[Bool.or_eq_false_iff]at hb
     obtain⟨q1,q2,q3,q4,q5,_⟩:=hb
     rw[q1, <- e]at hL
     rw[q2, <- e]at hD
     rw[<- e]at q3 q4 q5
     have PJ:((s[k].toNat:Int) != 43)=true:=by simpa using q3
     have PK:((s[k].toNat:Int) != 45)=true:=by simpa using q4
     have PL:((s[k].toNat:Int) != 37)=true:=by simpa using q5
     clear e lU q1 q2 q3 q4 q5
     go_wp2_with (first|(go_at_call 67;refine(hL _).mono ?_;rintro e w' ⟨rfl,rfl⟩)|(go_at_call 68;refine(hD _).mono ?_;rintro e w' ⟨rfl,rfl⟩))
     go_ret
     exact⟨ret_bool HB.out.symm,rfl⟩
    ·have HB:Hid (∀j,j<k+1->fbB (jae s j)=true):=jbi ak.out hb
     have hc:letB (jae s k)=true\/(letB (jae s k)=false/\digB (jae s k)=true)\/(letB (jae s k)=false/\digB (jae s k)=false/\jae s k=43)\/(letB (jae s k)=false/\digB (jae s k)=false/\jae s k=45)\/(letB (jae s k)=false/\digB (jae s k)=false/\jae s k=37):=by
      unfold fbB at hb
      cases q1:letB (jae s k)
      ·cases q2:digB (jae s k)
       ·rw[q1,q2]at hb
        simp at hb
        rcases hb with h|h|h|h
        ·exact .inr (.inr (.inl ⟨rfl,rfl,h⟩))
        ·exact .inr (.inr (.inr (.inl ⟨rfl,rfl,h⟩)))
        ·exact .inr (.inr (.inr (.inr ⟨rfl,rfl,h⟩)))
        ·exact absurd h lU
       ·exact .inr (.inl ⟨rfl,rfl⟩)
      ·exact .inl rfl
     clear hb lU
     rcases hc with q1|⟨q1,q2⟩|⟨q1,q2,q3⟩|⟨q1,q2,q3⟩|⟨q1,q2,q3⟩
     ·rw[q1, <- e]at hL
      clear e q1 hD
      go_wp2_with (go_at_call 67;refine(hL _).mono ?_;rintro e w' ⟨rfl,rfl⟩)
      go_round
      case rel=>exact⟨k+1,by omega,by go_num,by rw[HN.out],HB⟩
      case measure=>simp[intOf];omega
     all_goals
      rw[q1, <- e]at hL
      rw[q2, <- e]at hD
     ·clear e q1 q2
      go_wp2_with (first|(go_at_call 67;refine(hL _).mono ?_;rintro e w' ⟨rfl,rfl⟩)|(go_at_call 68;refine(hD _).mono ?_;rintro e w' ⟨rfl,rfl⟩))
      go_round
      case rel=>exact⟨k+1,by omega,by go_num,by rw[HN.out],HB⟩
      case measure=>simp[intOf];omega
     ·have t1:((s[k].toNat:Int) != 43)=false:=by rw[e,q3];rfl
      clear e q1 q2 q3
      go_wp2_with (first|(go_at_call 67;refine(hL _).mono ?_;rintro e w' ⟨rfl,rfl⟩)|(go_at_call 68;refine(hD _).mono ?_;rintro e w' ⟨rfl,rfl⟩))
      go_round
      case rel=>exact⟨k+1,by omega,by go_num,by rw[HN.out],HB⟩
      case measure=>simp[intOf];omega
     ·have t1:((s[k].toNat:Int) != 43)=true:=by rw[e,q3];rfl
      have t2:((s[k].toNat:Int) != 45)=false:=by rw[e,q3];rfl
      clear e q1 q2 q3
      go_wp2_with (first|(go_at_call 67;refine(hL _).mono ?_;rintro e w' ⟨rfl,rfl⟩)|(go_at_call 68;refine(hD _).mono ?_;rintro e w' ⟨rfl,rfl⟩))
      go_round
      case rel=>exact⟨k+1,by omega,by go_num,by rw[HN.out],HB⟩
      case measure=>simp[intOf];omega
     ·have t1:((s[k].toNat:Int) != 43)=true:=by rw[e,q3];rfl
      have t2:((s[k].toNat:Int) != 45)=true:=by rw[e,q3];rfl
      have t3:((s[k].toNat:Int) != 37)=false:=by rw[e,q3];rfl
      clear e q1 q2 q3
      go_wp2_with (first|(go_at_call 67;refine(hL _).mono ?_;rintro e w' ⟨rfl,rfl⟩)|(go_at_call 68;refine(hD _).mono ?_;rintro e w' ⟨rfl,rfl⟩))
      go_round
      case rel=>exact⟨k+1,by omega,by go_num,by rw[HN.out],HB⟩
      case measure=>simp[intOf];omega
  ·have e:k=s.size:=by omega
   subst e
   by_cases h1:1<=s.size
   ·by_cases h2:s.size<=12
    ·by_cases h3:strokes s s.size<=1
     ·have HB:Hid (fmtB s=true):=jw9 h1 h2 h3 ak.out
      go_wp2
      go_ret
      exact⟨ret_bool HB.out.symm,rfl⟩
     ·have HB:Hid (fmtB s=false):=jk8 (by omega)
      go_wp2
      go_ret
      exact⟨ret_bool HB.out.symm,rfl⟩
    ·have HB:Hid (fmtB s=false):=jk8 (by omega)
     go_wp2
     go_ret
     exact⟨ret_bool HB.out.symm,rfl⟩
   ·have HB:Hid (fmtB s=false):=jk8 (by omega)
    go_wp2
    go_ret
    exact⟨ret_bool HB.out.symm,rfl⟩
def erB(e:EraD):Bool:=if e.rules.toList.isEmpty=true then isB e.save (-7200) 7200 else jaz e.rules&&decide (e.save=0)
theorem jfw(e:EraD)(w:World)(ok:e.ok):
  Cl 163 #[e.v] w fun x w'=>x=.returned (.bool (erB e))/\Bw w w':=by
 obtain⟨offset,rules,save,format,until_,of⟩:=e
 obtain⟨k1,k2,k3⟩:=ok
 simp only[EraD.v,erB]at *
 have h1:=fun w=>je2 save w
 have h2:=fun w=>ja7 rules w k1
 generalize isB save (-7200) 7200=b1 at *
 generalize jaz rules=b2 at *
 cases he:rules.toList.isEmpty
 ·simp only[Bool.false_eq_true,if_false]
  unfold Cl;go_in
  go_wp2_with fail
  refine(h2 _).mono ?_
  rintro e w1 ⟨rfl,rfl⟩
  cases b2
  ·go_wp2
   go_ret
   exact⟨ret_bool (by simp),qal _ _⟩
  ·go_wp2
   go_ret
   exact⟨ret_bool (by simp;rfl),qal _ _⟩
 ·simp only[if_true]
  unfold Cl;go_in
  go_wp2_with fail
  refine(h1 _).mono ?_
  rintro e w1 ⟨rfl,rfl⟩
  go_wp2
  go_ret
  exact⟨rfl,qal _ _⟩
def eraP(e:EraD):Bool:=decide (-86400<=e.offset)&&(decide (e.offset<=86400)&&(erB e&&(fmtB e.format&&(decide (-62135596800<=e.until_)&&(decide (e.until_<=253402300799)&&ofB e.of)))))
theorem jg1(n:Int)(w:World):
  Cl 106 #[iv n] w fun e w'=>e=.returned (.bool (isB n (-62135596800) 253402300799))/\w'=w:=by
 by_cases h: -62135596800<=n
 ·unfold Cl;go_in
  go_wp2
  go_ret
  exact⟨ret_bool (by unfold isB;simp[h]),rfl⟩
 ·unfold Cl;go_in
  go_wp2
  go_ret
  exact⟨ret_bool (jj8 (by omega)).symm,rfl⟩
theorem jmd(e:EraD)(w:World)(ok:e.ok):
  Cl 139 #[e.v] w fun x w'=>x=.returned (.bool (eraP e))/\Bw w w':=by
 have h1:=fun w=>jfw e w ok
 unfold eraP
 generalize erB e=b1 at *
 obtain⟨offset,rules,save,format,until_,of⟩:=e
 obtain⟨k1,k2,k3⟩:=ok
 simp only[EraD.v]at *
 have h2:=fun w=>jhi format w k2
 have h3:=fun w=>jgz of w
 have h4:=fun w=>jg1 until_ w
 generalize fmtB format=b2 at *
 generalize ofB of=b3 at *
 have ag:=fun o=>qal w o
 unfold Cl;go_in
 by_cases g1: -86400<=offset
 case neg=>
  go_wp2
  go_ret
  exact⟨ret_bool (by simp;intros;omega),ag _⟩
 by_cases g2:offset<=86400
 case neg=>
  go_wp2
  go_ret
  exact⟨ret_bool (by simp;intros;omega),ag _⟩
 go_wp2_with fail
 refine(h1 _).mono ?_
 rintro e w1 ⟨rfl,hb1⟩
 obtain⟨hc,_⟩:=jaf hb1
 have hlt:w.heap.size<w1.heap.size:=by have:=hb1.size;simp at this;omega
 have aj:=(ag _).trans (hb1.mono (by simp))
 cases b1
 case false=>
  go_wp2
  go_ret
  exact⟨ret_bool (by simp),aj⟩
 go_wp2_with fail
 refine(h2 _).mono ?_
 rintro e w9 ⟨rfl,rfl⟩
 cases b2
 case false=>
  go_wp2
  go_ret
  exact⟨ret_bool (by simp),aj⟩
 by_cases xF: -62135596800<=until_/\until_<=253402300799
 case neg=>
  rw[jj8 xF]at h4
  go_wp2_with fail
  refine(h4 _).mono ?_
  rintro e w8 ⟨rfl,rfl⟩
  go_wp2
  go_ret
  exact⟨ret_bool (by simp;intros;omega),aj⟩
 rw[jma xF.1 xF.2]at h4
 obtain⟨g3,g4⟩:=xF
 go_wp2_with fail
 refine(h4 _).mono ?_
 rintro e w8 ⟨rfl,rfl⟩
 go_wp2_with fail
 refine(h3 _).mono ?_
 rintro e w9 ⟨rfl,rfl⟩
 go_wp2
 go_ret
 exact⟨ret_bool (by simp[*]),aj⟩
def jes(l:LinkD):Bool:=jaz l.to_&&jaz l.name
theorem jke(l:LinkD)(w:World)(ok:l.ok):
  Cl 101 #[l.v] w fun x w'=>x=.returned (.bool (jes l))/\Bw w w':=by
 obtain⟨to_,name⟩:=l
 obtain⟨k1,k2⟩:=ok
 simp only[LinkD.v,jes]at *
 have h1:=fun w=>ja7 to_ w k1
 have h2:=fun w=>ja7 name w k2
 generalize jaz to_=b1 at *
 generalize jaz name=b2 at *
 unfold Cl;go_in
 go_wp2_with fail
 refine(h1 _).mono ?_
 rintro e w1 ⟨rfl,rfl⟩
 cases b1
 case false=>
  go_wp2
  go_ret
  exact⟨ret_bool (by simp),qal _ _⟩
 go_wp2_with fail
 refine(h2 _).mono ?_
 rintro e w1 ⟨rfl,rfl⟩
 go_wp2
 go_ret
 exact⟨ret_bool (by simp),qal _ _⟩
theorem jg5{α:Type}{l:List α}{p:α->Bool}{k:Nat}{x:α}(hk:l[k]? =some x)(h:p x=false):l.all p=false:=by
 rw[List.all_eq_false]
 exact⟨x,lmg hk,by simp[h]⟩
theorem jed{α:Type}{l:List α}{p:α->Bool}(h:∀j,j<l.length->∀x,l[j]? =some x->p x=true):l.all p=true:=by
 rw[List.all_eq_true]
 intro x hx
 obtain⟨j,hj⟩:=lgo hx
 exact h j (lgs hj).1 x hj
theorem jop(l:List RuleD)(a:Option Addr)(cap:Nat)(w:World)(hE:Zx w)(hA:Za w a 9 (l.map RuleD.cs))(gW:∀r∈l,r.ok)(hz:∀r∈l,r.on.size<=1048576)(hl:l.length<=1048576):
  Cl 96 #[.slice a l.length cap,.func (.func 97) #[] #[]] w fun e w'=>e=.returned (.bool (l.all jaw))/\Bw w w':=by
 unfold Cl;go_in
 go_wp2
 go_loopw [9] (fun i wr=>∃k:Nat,k<=l.length/\i=iv k/\Hid (∀j,j<k->∀x,l[j]? =some x->jaw x=true)/\Bw w wr) (fun i _=>l.length-(intOf i).toNat)
 case atStart=>exact⟨0,by omega,rfl,fun j hj=>by omega,brf _ _⟩
 case round=>
  obtain⟨k,hk,rfl,ak,hB⟩:=hrel
  by_cases hlt:k<l.length
  ·obtain⟨r,hr⟩:=qgg hlt
   have ap:(l.map RuleD.cs)[k]? =some r.cs:=by rw[lgm,hr];rfl
   obtain⟨b,o,rfl,hc⟩:=(hA.below hB).at (i:=k) ap
   have ok:=gW r (lmg hr)
   have hS:=fun w (h:Zx w)=>jkc r w h ok (hz r (lmg hr))
   have jx:=hE.of_below hB
   have c0:wr.cell? (ad b (o+k*9))=some (.string r.name):=hc 0 _ rfl
   have c1:=hc 1 _ rfl
   have c2:=hc 2 _ rfl
   have c3:=hc 3 _ rfl
   have c4:=hc 4 _ rfl
   have c5:=hc 5 _ rfl
   have c6:=hc 6 _ rfl
   have c7:=hc 7 _ rfl
   have c8:=hc 8 _ rfl
   clear hc
   unfold RuleD.v at hS
   cases hb:jaw r
   ·have HR:Hid (l.all jaw=false):=jg5 hr hb
    rw[hb]at hS
    clear hb
    go_wp2_with fail
    refine(hS _ (jx.alloc _)).mono ?_
    rintro e w2 ⟨rfl,ac⟩
    go_wp2
    go_ret
    exact⟨ret_bool HR.out.symm,(hB.alloc hB.size _).trans (ac.mono (by simp;have:=hB.size;omega))⟩
   ·have HR:Hid (∀j,j<k+1->∀x,l[j]? =some x->jaw x=true):=fun j hj x hx=>by
     by_cases e:j=k
     ·subst e;rw[hr]at hx;obtain rfl:=osi hx;exact hb
     ·exact ak.out j (by omega) x hx
    rw[hb]at hS
    clear hb
    go_wp2_with fail
    refine(hS _ (jx.alloc _)).mono ?_
    rintro e w2 ⟨rfl,ac⟩
    go_wp2
    go_roundw
    case rel=>exact⟨k+1,by omega,by go_num,HR,(hB.alloc hB.size _).trans (ac.mono (by simp;have:=hB.size;omega))⟩
    case measure=>simp[intOf];omega
  ·have e:k=l.length:=by omega
   subst e
   have HR:Hid (l.all jaw=true):=jed ak.out
   go_wp2
   go_ret
   exact⟨ret_bool HR.out.symm,hB⟩
theorem jqt(l:List EraD)(a:Option Addr)(cap:Nat)(w:World)(hA:Za w a 6 (l.map EraD.cs))(gW:∀r∈l,r.ok)(hl:l.length<=1048576):
  Cl 138 #[.slice a l.length cap,.func (.func 139) #[] #[]] w fun e w'=>e=.returned (.bool (l.all eraP))/\Bw w w':=by
 unfold Cl;go_in
 go_wp2
 go_loopw [9] (fun i wr=>∃k:Nat,k<=l.length/\i=iv k/\Hid (∀j,j<k->∀x,l[j]? =some x->eraP x=true)/\Bw w wr) (fun i _=>l.length-(intOf i).toNat)
 case atStart=>exact⟨0,by omega,rfl,fun j hj=>by omega,brf _ _⟩
 case round=>
  obtain⟨k,hk,rfl,ak,hB⟩:=hrel
  by_cases hlt:k<l.length
  ·obtain⟨r,hr⟩:=qgg hlt
   have ap:(l.map EraD.cs)[k]? =some r.cs:=by rw[lgm,hr];rfl
   obtain⟨b,o,rfl,hc⟩:=(hA.below hB).at (i:=k) ap
   have ok:=gW r (lmg hr)
   have hS:=fun w=>jmd r w ok
   have c0:wr.cell? (ad b (o+k*6))=some (iv r.offset):=hc 0 _ rfl
   have c1:=hc 1 _ rfl
   have c2:=hc 2 _ rfl
   have c3:=hc 3 _ rfl
   have c4:=hc 4 _ rfl
   have c5:=hc 5 _ rfl
   clear hc
   unfold EraD.v at hS
   cases hb:eraP r
   ·have HR:Hid (l.all eraP=false):=jg5 hr hb
    rw[hb]at hS
    clear hb
    go_wp2_with fail
    refine(hS _).mono ?_
    rintro e w2 ⟨rfl,ac⟩
    go_wp2
    go_ret
    exact⟨ret_bool HR.out.symm,(hB.alloc hB.size _).trans (ac.mono (by simp;have:=hB.size;omega))⟩
   ·have HR:Hid (∀j,j<k+1->∀x,l[j]? =some x->eraP x=true):=fun j hj x hx=>by
     by_cases e:j=k
     ·subst e;rw[hr]at hx;obtain rfl:=osi hx;exact hb
     ·exact ak.out j (by omega) x hx
    rw[hb]at hS
    clear hb
    go_wp2_with fail
    refine(hS _).mono ?_
    rintro e w2 ⟨rfl,ac⟩
    go_wp2
    go_roundw
    case rel=>exact⟨k+1,by omega,by go_num,HR,(hB.alloc hB.size _).trans (ac.mono (by simp;have:=hB.size;omega))⟩
    case measure=>simp[intOf];omega
  ·have e:k=l.length:=by omega
   subst e
   have HR:Hid (l.all eraP=true):=jed ak.out
   go_wp2
   go_ret
   exact⟨ret_bool HR.out.symm,hB⟩
theorem joq(l:List LinkD)(a:Option Addr)(cap:Nat)(w:World)(hA:Za w a 2 (l.map LinkD.cs))(gW:∀r∈l,r.ok)(hl:l.length<=1048576):
  Cl 100 #[.slice a l.length cap,.func (.func 101) #[] #[]] w fun e w'=>e=.returned (.bool (l.all jes))/\Bw w w':=by
 unfold Cl;go_in
 go_wp2
 go_loopw [9] (fun i wr=>∃k:Nat,k<=l.length/\i=iv k/\Hid (∀j,j<k->∀x,l[j]? =some x->jes x=true)/\Bw w wr) (fun i _=>l.length-(intOf i).toNat)
 case atStart=>exact⟨0,by omega,rfl,fun j hj=>by omega,brf _ _⟩
 case round=>
  obtain⟨k,hk,rfl,ak,hB⟩:=hrel
  by_cases hlt:k<l.length
  ·obtain⟨r,hr⟩:=qgg hlt
   have ap:(l.map LinkD.cs)[k]? =some r.cs:=by rw[lgm,hr];rfl
   obtain⟨b,o,rfl,hc⟩:=(hA.below hB).at (i:=k) ap
   have ok:=gW r (lmg hr)
   have hS:=fun w=>jke r w ok
   have c0:wr.cell? (ad b (o+k*2))=some (.string r.to_):=hc 0 _ rfl
   have c1:=hc 1 _ rfl
   clear hc
   unfold LinkD.v at hS
   cases hb:jes r
   ·have HR:Hid (l.all jes=false):=jg5 hr hb
    rw[hb]at hS
    clear hb
    go_wp2_with fail
    refine(hS _).mono ?_
    rintro e w2 ⟨rfl,ac⟩
    go_wp2
    go_ret
    exact⟨ret_bool HR.out.symm,(hB.alloc hB.size _).trans (ac.mono (by simp;have:=hB.size;omega))⟩
   ·have HR:Hid (∀j,j<k+1->∀x,l[j]? =some x->jes x=true):=fun j hj x hx=>by
     by_cases e:j=k
     ·subst e;rw[hr]at hx;obtain rfl:=osi hx;exact hb
     ·exact ak.out j (by omega) x hx
    rw[hb]at hS
    clear hb
    go_wp2_with fail
    refine(hS _).mono ?_
    rintro e w2 ⟨rfl,ac⟩
    go_wp2
    go_roundw
    case rel=>exact⟨k+1,by omega,by go_num,HR,(hB.alloc hB.size _).trans (ac.mono (by simp;have:=hB.size;omega))⟩
    case measure=>simp[intOf];omega
  ·have e:k=l.length:=by omega
   subst e
   have HR:Hid (l.all jes=true):=jed ak.out
   go_wp2
   go_ret
   exact⟨ret_bool HR.out.symm,hB⟩
def upB:List EraD->Bool
 |[]=>true
 |[_]=>true
 |x::y::l=>decide (x.until_<y.until_)&&upB (y::l)
theorem j20{es:List EraD}:∀{i:Nat} {x y:EraD},es[i]? =some x->es[i+1]? =some y->¬x.until_<y.until_->upB es=false:=by
 induction es with
 |nil=>intro i x y h;simp at h
 | cons a l ih=>
  intro i x y hx hy hn
  match l,i with
  |[],_=>simp at hy
  |b::l,0=>
   simp at hx hy
   subst hx hy
   simp[upB,hn]
  |b::l,i+1=>
   have:=ih (i:=i) (x:=x) (y:=y) (by simpa using hx) (by simpa using hy) hn
   simp only[upB,this,Bool.and_false]
theorem j0u{es:List EraD}(h:∀i x y,es[i]? =some x->es[i+1]? =some y->x.until_<y.until_):upB es=true:=by
 induction es with
 |nil=>rfl
 | cons a l ih=>
  match l with
  |[]=>rfl
  |b::l=>
   have h0:=h 0 a b rfl rfl
   have:=ih fun i x y hx hy=>h (i+1) x y (by simpa using hx) (by simpa using hy)
   simp only[upB,this,dte h0,Bool.and_true]
def laB2(es:List EraD):Bool:=match es[es.length-1]? with
 |some e=>(e.until_==253402300799)&&(e.of.toList==[119])
 |none=>false
def jbh(z:ZoneD):Bool:=jaz z.name&&(decide (1<=z.eras.length/\z.eras.length<=8)&&(z.eras.all eraP&&(upB z.eras&&laB2 z.eras)))
theorem jx7{z:ZoneD}(h:jaz z.name=false):jbh z=false:=by unfold jbh;rw[h];rfl
theorem jq9{z:ZoneD}(h:¬(1<=z.eras.length/\z.eras.length<=8)):jbh z=false:=by unfold jbh;rw[dfe h];simp
theorem jx6{z:ZoneD}(h:z.eras.all eraP=false):jbh z=false:=by unfold jbh;rw[h];simp
theorem jx5{z:ZoneD}(h:upB z.eras=false):jbh z=false:=by unfold jbh;rw[h];simp
theorem jx2{z:ZoneD}(h1:jaz z.name=true)(h2:1<=z.eras.length/\z.eras.length<=8)(h3:z.eras.all eraP=true)(h4:upB z.eras=true):jbh z=laB2 z.eras:=by unfold jbh;rw[h1,dte h2,h3,h4];simp
theorem jj9(z:ZoneD)(v:Value)(w:World)(hv:Jf w v z.eras)(hm:z.ok):
  Cl 99 #[.agg #[.string z.name,v]] w fun e w'=>e=.returned (.bool (jbh z))/\Bw w w':=by
 obtain⟨a,cap,rfl,hA⟩:=hv
 obtain⟨m1,m2,m3⟩:=hm
 have h1:=fun w=>ja7 z.name w m1
 have ag:=fun o=>qal w o
 unfold maxLen at m2
 cases hn:jaz z.name
 ·rw[jx7 hn]
  rw[hn]at h1
  generalize z.name=nm at *
  clear hn
  unfold Cl;go_in
  go_wp2_with (go_at_call 105;refine(h1 _).mono ?_;rintro e w' ⟨rfl,rfl⟩)
  go_ret
  exact⟨rfl,ag _⟩
 rw[hn]at h1
 by_cases hl0:z.eras.length<1
 ·rw[jq9 (by omega)]
  unfold Cl;go_in
  go_wp2_with (go_at_call 105;refine(h1 _).mono ?_;rintro e w' ⟨rfl,rfl⟩)
  go_ret
  exact⟨rfl,ag _⟩
 by_cases G3:8<z.eras.length
 ·rw[jq9 (by omega)]
  unfold Cl;go_in
  go_wp2_with (go_at_call 105;refine(h1 _).mono ?_;rintro e w' ⟨rfl,rfl⟩)
  go_ret
  exact⟨rfl,ag _⟩
 have h2:=fun w (h:Za w a 6 (z.eras.map EraD.cs))=>jqt z.eras a cap w h m3 (by omega)
 cases ha:z.eras.all eraP
 ·rw[jx6 ha]
  rw[ha]at h2
  clear ha
  unfold Cl;go_in
  go_wp2_with fail
  refine(h1 _).mono ?_
  rintro e w1 ⟨rfl,rfl⟩
  go_wp2_with fail
  refine(h2 _ (hA.below (ag _))).mono ?_
  rintro e w1 ⟨rfl,hb1⟩
  go_wp2
  go_ret
  exact⟨rfl,(ag _).trans (hb1.mono (by simp))⟩
 rw[ha]at h2
 have HZ:Hid (upB z.eras=true->jbh z=laB2 z.eras):=fun h=>jx2 hn (by omega) ha h
 have HN:Hid (upB z.eras=false->jbh z=false):=fun h=>jx5 h
 clear hn ha
 generalize jbh z=zb at *
 unfold Cl;go_in
 go_wp2_with fail
 refine(h1 _).mono ?_
 rintro e w1 ⟨rfl,rfl⟩
 go_wp2_with fail
 refine(h2 _ (hA.below (ag _))).mono ?_
 rintro e w1 ⟨rfl,hb1⟩
 obtain⟨hc,_⟩:=jaf hb1
 have aj:=(ag _).trans (hb1.mono (by simp))
 have x1:w1.cell? (ad w.heap.size 1)=some (.slice a z.eras.length cap):=(hc _ _ (by simp)).trans (by simp[go_sem])
 have eL:=hA.below aj
 clear hc hb1 h1 h2
 obtain⟨n,au⟩:∃n,z.eras.length=n+1:=⟨z.eras.length-1,by omega⟩
 go_wp2
 go_loopw [28] (fun i wr=>∃k:Nat,k<=n/\i=iv k/\Hid (∀j,j<k->∀x y,z.eras[j]? =some x->z.eras[j+1]? =some y->x.until_<y.until_)/\Bw w1 wr) (fun i _=>n-(intOf i).toNat)
 case atStart=>exact⟨0,by omega,rfl,fun j hj=>by omega,brf _ _⟩
 case round=>
  obtain⟨k,hk,rfl,ak,hB⟩:=hrel
  have y1:wr.cell? (ad w.heap.size 1)=some (.slice a z.eras.length cap):=by rw[(jaf hB).1 _ _ (qbl x1)];exact x1
  have dr:=qtr aj hB
  by_cases hlt:k<n
  ·obtain⟨r,hr⟩:∃r,z.eras[k]? =some r:=⟨_,lgg (by omega)⟩
   obtain⟨r2,dC⟩:∃r,z.eras[k+1]? =some r:=⟨_,lgg (by omega)⟩
   obtain⟨b,o,rfl,hc⟩:=(eL.below hB).at (i:=k) (r:=r.cs) (by rw[lgm,hr];rfl)
   obtain⟨b',o',he,hd⟩:=(eL.below hB).at (i:=k+1) (r:=r2.cs) (by rw[lgm,dC];rfl)
   injection he with he
   injection he with e1 e2
   subst e1 e2
   have c4:=hc 4 _ rfl
   have d4:=hd 4 _ rfl
   clear hc hd
   by_cases hu:r.until_<r2.until_
   ·have HR:Hid (∀j,j<k+1->∀x y,z.eras[j]? =some x->z.eras[j+1]? =some y->x.until_<y.until_):=fun j hj x y hx hy=>by
     by_cases e:j=k
     ·subst e;rw[hr]at hx;rw[dC]at hy;obtain rfl:=osi hx;obtain rfl:=osi hy;exact hu
     ·exact ak.out j (by omega) x y hx hy
    go_wp2_with fail
    go_quiet (fail)
    go_wp2
    go_roundw
    case rel=>exact⟨k+1,by omega,by go_num,HR,below_drewN hB _⟩
    case measure=>simp[intOf];omega
   ·have HR:Hid (zb=false):=HN.out (j20 hr dC hu)
    go_wp2_with fail
    go_quiet (fail)
    go_wp2
    go_ret
    exact⟨ret_bool HR.out.symm,below_drewN dr _⟩
  ·have e:k=n:=by omega
   subst e
   obtain⟨r,hr⟩:∃r,z.eras[k]? =some r:=⟨_,lgg (by omega)⟩
   obtain⟨b,o,rfl,hc⟩:=(eL.below hB).at (i:=k) (r:=r.cs) (by rw[lgm,hr];rfl)
   have c4:=hc 4 _ rfl
   have c5:=hc 5 _ rfl
   clear hc
   have HR:Hid (zb=((r.until_==253402300799)&&(r.of.toList==[119]))):=by
    simp only[Hid]
    rw[HZ.out (j0u fun i x y hx hy=>ak.out i (by have:=(lgs hy).1;omega) x y hx hy)]
    unfold laB2
    rw[show z.eras.length-1=k by omega,hr]
   cases g:(r.until_==253402300799)
   ·rw[g]at HR
    go_wp2
    go_ret
    exact⟨ret_bool HR.out.symm,dr⟩
   ·rw[g]at HR
    go_wp2
    go_ret
    exact⟨ret_bool (by rw[HR.out];simp),dr⟩
theorem jmr{α:Type}{l:List α}{p:α->Bool}{k:Nat}{x:α}(hk:l[k]? =some x)(h:p x=true):l.any p=true:=by
 rw[List.any_eq_true]
 exact⟨x,lmg hk,h⟩
theorem jsl{α:Type}{l:List α}{p:α->Bool}(h:∀j,j<l.length->∀x,l[j]? =some x->p x=false):l.any p=false:=by
 rw[List.any_eq_false]
 intro x hx
 obtain⟨j,hj⟩:=lgo hx
 simp[h j (lgs hj).1 x hj]
def hasB(rs:List RuleD)(s:ByteArray):Bool:=rs.any fun x=>x.name.toList==s.toList
theorem jlt(r:RelD)(v:Value)(s:ByteArray)(w:World)(hv:Zd w v r)(hl:r.rules.length<=1048576):
  Cl 91 #[v,.string s] w fun e w'=>e=.returned (.bool (hasB r.rules s))/\Bw w w':=by
 obtain⟨a,b,c,ca,cb,cc,rfl,hA,_,_⟩:=hv.form
 generalize r.rules=l at *
 generalize r.zones.length=zn at *
 generalize r.links.length=ln at *
 clear hv
 have hB:=qal w (.cells #[.slice a l.length ca,.slice b zn cb,.slice c ln cc] 37)
 have eL:=hA.below hB
 unfold hasB
 unfold Cl;go_in
 go_wp2
 go_loop [5] (fun i=>∃k:Nat,k<=l.length/\i=iv k/\Hid (∀j,j<k->∀x,l[j]? =some x->(x.name.toList==s.toList)=false)) (fun i=>l.length-(intOf i).toNat)
 case atStart=>exact⟨0,by omega,rfl,fun j hj=>by omega⟩
 case round=>
  obtain⟨k,hk,rfl,ak⟩:=hrel
  by_cases hlt:k<l.length
  ·obtain⟨x,hx⟩:=qgg hlt
   obtain⟨b',o,rfl,hc⟩:=eL.at (i:=k) (r:=x.cs) (by rw[lgm,hx];rfl)
   have c0:(w.alloc (.cells #[.slice (some (ad b' o)) l.length ca,.slice b zn cb,.slice c ln cc] 37)).cell? (ad b' (o+k*9))=some (.string x.name):=hc 0 _ rfl
   clear hc
   cases hb:(x.name.toList==s.toList)
   ·have HR:Hid (∀j,j<k+1->∀x,l[j]? =some x->(x.name.toList==s.toList)=false):=fun j hj y hy=>by
     by_cases e:j=k
     ·subst e;rw[hx]at hy;obtain rfl:=osi hy;exact hb
     ·exact ak.out j (by omega) y hy
    generalize x.name=nm at *
    go_wp2
    go_round
    case rel=>exact⟨k+1,by omega,by go_num,HR⟩
    case measure=>simp[intOf];omega
   ·have HR:Hid ((l.any fun x=>x.name.toList==s.toList)=true):=jmr hx hb
    generalize x.name=nm at *
    go_wp2
    go_ret
    exact⟨ret_bool HR.out.symm,hB⟩
  ·have e:k=l.length:=by omega
   subst e
   have HR:Hid ((l.any fun x=>x.name.toList==s.toList)=false):=jsl ak.out
   go_wp2
   go_ret
   exact⟨ret_bool HR.out.symm,hB⟩
theorem jon(l:List ZoneD)(a:Option Addr)(cap:Nat)(w:World)(hA:Zo w a l)(gW:∀r∈l,r.ok)(hl:l.length<=1048576):
  Cl 98 #[.slice a l.length cap,.func (.func 99) #[] #[]] w fun e w'=>e=.returned (.bool (l.all jbh))/\Bw w w':=by
 unfold Cl;go_in
 go_wp2
 go_loopw [9] (fun i wr=>∃k:Nat,k<=l.length/\i=iv k/\Hid (∀j,j<k->∀x,l[j]? =some x->jbh x=true)/\Bw w wr) (fun i _=>l.length-(intOf i).toNat)
 case atStart=>exact⟨0,by omega,rfl,fun j hj=>by omega,brf _ _⟩
 case round=>
  obtain⟨k,hk,rfl,ak,hB⟩:=hrel
  by_cases hlt:k<l.length
  ·obtain⟨r,hr⟩:=qgg hlt
   obtain⟨b,o,rfl,c0,v,c1,hv⟩:=(hA.below hB).at hr
   have ok:=gW r (lmg hr)
   have hS:=fun o=>jj9 r v (wr.alloc o) (hv.below (qal _ o)) ok
   obtain⟨ae,ce,rfl,_⟩:=hv
   generalize r.eras.length=en at *
   cases hb:jbh r
   ·have HR:Hid (l.all jbh=false):=jg5 hr hb
    rw[hb]at hS
    clear hb
    go_wp2_with fail
    refine(hS _).mono ?_
    rintro e w2 ⟨rfl,ac⟩
    go_wp2
    go_ret
    exact⟨ret_bool HR.out.symm,(hB.alloc hB.size _).trans (ac.mono (by simp;have:=hB.size;omega))⟩
   ·have HR:Hid (∀j,j<k+1->∀x,l[j]? =some x->jbh x=true):=fun j hj x hx=>by
     by_cases e:j=k
     ·subst e;rw[hr]at hx;obtain rfl:=osi hx;exact hb
     ·exact ak.out j (by omega) x hx
    rw[hb]at hS
    clear hb
    go_wp2_with fail
    refine(hS _).mono ?_
    rintro e w2 ⟨rfl,ac⟩
    go_wp2
    go_roundw
    case rel=>exact⟨k+1,by omega,by go_num,HR,(hB.alloc hB.size _).trans (ac.mono (by simp;have:=hB.size;omega))⟩
    case measure=>simp[intOf];omega
  ·have e:k=l.length:=by omega
   subst e
   have HR:Hid (l.all jbh=true):=jed ak.out
   go_wp2
   go_ret
   exact⟨ret_bool HR.out.symm,hB⟩
def eraM(rs:List RuleD)(e:EraD):Bool:=(e.rules.toList.isEmpty || (decide (e.save=0)&&hasB rs e.rules))&&(isB e.offset (-86400) 86400&&(isB e.save (-7200) 7200&&(fmtB e.format&&(isB e.until_ (-62135596800) 253402300799&&ofB e.of))))
theorem jlu(n:Int)(w:World):
  Cl 69 #[iv n] w fun e w'=>e=.returned (.bool (isB n (-62135596800) 253402300799))/\w'=w:=by
 unfold Cl;go_in
 go_wp2_with (go_at_call 13;refine(jau _ _ _ _).mono ?_;rintro e w' ⟨rfl,rfl⟩)
 go_ret
 exact⟨rfl,rfl⟩
theorem jpr(r:RelD)(v:Value)(e:EraD)(w:World)(hv:Zd w v r)(ok:e.ok)(hl:r.rules.length<=1048576):
  Cl 66 #[v,e.v] w fun x w'=>x=.returned (.bool (eraM r.rules e))/\Bw w w':=by
 have ag:=fun o o2=>(qal w o).alloc (by simp) o2
 have hR:=fun s o o2=>jlt r v s ((w.alloc o).alloc o2) (hv.below (ag o o2)) hl
 obtain⟨a,b,c,ca,cb,cc,rfl,_,_,_⟩:=hv.form
 generalize r.rules.length=rn at *
 generalize r.zones.length=zn at *
 generalize r.links.length=ln at *
 clear hv
 obtain⟨offset,rules,save,format,until_,of⟩:=e
 obtain⟨k1,k2,k3⟩:=ok
 simp only[EraD.v,eraM]at *
 have h1:=fun w=>jau offset (-86400) 86400 w
 have h2:=fun w=>jgr save w
 have h3:=fun w=>jjz format w k2
 have h4:=fun w=>jlu until_ w
 have h5:=fun w=>jku of w
 have dn:=hR rules
 clear hR
 generalize hasB r.rules rules=q at *
 generalize isB offset (-86400) 86400=b1 at *
 generalize isB save (-7200) 7200=b2 at *
 generalize fmtB format=b3 at *
 generalize isB until_ (-62135596800) 253402300799=b4 at *
 generalize ofB of=b5 at *
 cases he:rules.toList.isEmpty
 ·by_cases hs:save=0
  ·subst hs
   cases q
   ·unfold Cl;go_in
    go_wp2_with fail
    refine(dn _ _).mono ?_
    rintro e w1 ⟨rfl,hb1⟩
    go_wp2
    go_ret
    exact⟨ret_bool (by simp),(ag _ _).trans (hb1.mono (by simp;omega))⟩
   ·unfold Cl;go_in
    go_wp2_with fail
    refine(dn _ _).mono ?_
    rintro e w1 ⟨rfl,hb1⟩
    obtain⟨hc,_⟩:=jaf hb1
    have hlt:w.heap.size+1<w1.heap.size:=by have:=hb1.size;simp at this;omega
    have aj:=(ag _ _).trans (hb1.mono (by simp;omega))
    go_wp2_with fail
    refine(h1 _).mono ?_
    rintro e w9 ⟨rfl,rfl⟩
    cases b1
    case false=>
     go_wp2
     go_ret
     exact⟨ret_bool (by simp),aj⟩
    go_wp2_with fail
    refine(h2 _).mono ?_
    rintro e w9 ⟨rfl,rfl⟩
    cases b2
    case false=>
     go_wp2
     go_ret
     exact⟨ret_bool (by simp),aj⟩
    go_wp2_with fail
    refine(h3 _).mono ?_
    rintro e w9 ⟨rfl,rfl⟩
    cases b3
    case false=>
     go_wp2
     go_ret
     exact⟨ret_bool (by simp),aj⟩
    go_wp2_with fail
    refine(h4 _).mono ?_
    rintro e w9 ⟨rfl,rfl⟩
    cases b4
    case false=>
     go_wp2
     go_ret
     exact⟨ret_bool (by simp),aj⟩
    go_wp2_with fail
    refine(h5 _).mono ?_
    rintro e w9 ⟨rfl,rfl⟩
    go_wp2
    go_ret
    exact⟨ret_bool (by simp),aj⟩
  ·have Cw:(save != 0)=true:=by simpa using hs
   unfold Cl;go_in
   go_wp2
   go_ret
   exact⟨ret_bool (by simp[hs]),ag _ _⟩
 ·unfold Cl;go_in
  go_wp2_with fail
  refine(h1 _).mono ?_
  rintro e w9 ⟨rfl,rfl⟩
  cases b1
  case false=>
   go_wp2
   go_ret
   exact⟨ret_bool (by simp),ag _ _⟩
  go_wp2_with fail
  refine(h2 _).mono ?_
  rintro e w9 ⟨rfl,rfl⟩
  cases b2
  case false=>
   go_wp2
   go_ret
   exact⟨ret_bool (by simp),ag _ _⟩
  go_wp2_with fail
  refine(h3 _).mono ?_
  rintro e w9 ⟨rfl,rfl⟩
  cases b3
  case false=>
   go_wp2
   go_ret
   exact⟨ret_bool (by simp),ag _ _⟩
  go_wp2_with fail
  refine(h4 _).mono ?_
  rintro e w9 ⟨rfl,rfl⟩
  cases b4
  case false=>
   go_wp2
   go_ret
   exact⟨ret_bool (by simp),ag _ _⟩
  go_wp2_with fail
  refine(h5 _).mono ?_
  rintro e w9 ⟨rfl,rfl⟩
  go_wp2
  go_ret
  exact⟨ret_bool (by simp),ag _ _⟩
def Jm(w:World)(a:Option Addr)(ss:List ByteArray):Prop:=
 ss=[]\/∃b o,a=some (ad b o)/\∀i s,ss[i]? =some s->w.cell? (ad b (o+i))=some (.string s)
theorem Jm.at{w:World}{a:Option Addr}{ss:List ByteArray}(h:Jm w a ss){i:Nat}{s:ByteArray}(hi:ss[i]? =some s):∃b o,a=some (ad b o)/\w.cell? (ad b (o+i))=some (.string s):=by
 rcases h with rfl|⟨b,o,ha,hc⟩
 ·simp at hi
 ·exact⟨b,o,ha,hc i s hi⟩
theorem Jm.below{w w':World}{a:Option Addr}{ss:List ByteArray}(h:Jm w a ss)(hb:Bw w w'):Jm w' a ss:=by
 rcases h with h|⟨b,o,ha,hc⟩
 ·exact .inl h
 ·exact .inr ⟨b,o,ha,fun i s hi=>by
   have:=hc i s hi
   rw[(jaf hb).1 _ _ (qbl this)];exact this⟩
theorem Jm.take{w:World}{a:Option Addr}{ss:List ByteArray}(h:Jm w a ss)(n:Nat):Jm w a (ss.take n):=by
 rcases h with rfl|⟨b,o,ha,hc⟩
 ·exact .inl (by simp)
 ·exact .inr ⟨b,o,ha,fun i s hi=>hc i s (by rw[List.getElem?_take]at hi;split at hi<;>simp_all)⟩
def inB(ss:List ByteArray)(t:ByteArray):Bool:=ss.any fun s=>s.toList==t.toList
theorem jkv(l:List ByteArray)(a:Option Addr)(cap:Nat)(t:ByteArray)(w:World)(hA:Jm w a l)(hl:l.length<=1048576):
  Cl 33 #[.slice a l.length cap,.string t] w fun e w'=>e=.returned (.bool (inB l t))/\w'=w:=by
 unfold inB
 unfold Cl;go_in
 go_wp2
 go_loop [5] (fun i=>∃k:Nat,k<=l.length/\i=iv k/\Hid (∀j,j<k->∀x,l[j]? =some x->(x.toList==t.toList)=false)) (fun i=>l.length-(intOf i).toNat)
 case atStart=>exact⟨0,by omega,rfl,fun j hj=>by omega⟩
 case round=>
  obtain⟨k,hk,rfl,ak⟩:=hrel
  by_cases hlt:k<l.length
  ·obtain⟨x,hx⟩:=qgg hlt
   obtain⟨b,o,rfl,c0⟩:=hA.at hx
   cases hb:(x.toList==t.toList)
   ·have HR:Hid (∀j,j<k+1->∀x,l[j]? =some x->(x.toList==t.toList)=false):=fun j hj y hy=>by
     by_cases e:j=k
     ·subst e;rw[hx]at hy;obtain rfl:=osi hy;exact hb
     ·exact ak.out j (by omega) y hy
    go_wp2
    go_round
    case rel=>exact⟨k+1,by omega,by go_num,HR⟩
    case measure=>simp[intOf];omega
   ·have HR:Hid ((l.any fun x=>x.toList==t.toList)=true):=jmr hx hb
    go_wp2
    go_ret
    exact⟨ret_bool HR.out.symm,rfl⟩
  ·have e:k=l.length:=by omega
   subst e
   have HR:Hid ((l.any fun x=>x.toList==t.toList)=false):=jsl ak.out
   go_wp2
   go_ret
   exact⟨ret_bool HR.out.symm,rfl⟩
theorem jts(r:RuleD)(p:Nat)(s:ByteArray)(w:World)(hp:w.cell? (ad p 1)=some (.string s)):
  Cl 142 #[r.v,.pointer (some (ad p 0))] w fun e w'=>e=.returned (.bool (r.name.toList==s.toList))/\Bw w w':=by
 have hlt:=qbl hp
 have az:p≠w.heap.size:=by simp at hlt;omega
 obtain⟨name,lo,hi,month,on,at_,of,save,letter⟩:=r
 simp only[RuleD.v]at *
 unfold Cl;go_in
 go_wp2
 go_ret
 exact⟨rfl,qal _ _⟩
theorem jkg(l:List RuleD)(a:Option Addr)(cap p:Nat)(s:ByteArray)(w:World)(hA:Za w a 9 (l.map RuleD.cs))(hl:l.length<=1048576)(hp:w.cell? (ad p 1)=some (.string s)):
  Cl 166 #[.slice a l.length cap,.func (.func 142) #[] #[.pointer (some (ad p 0))]] w fun e w'=>(∃n:Int,e=.returned (iv n)/\decide (0<=n)=hasB l s)/\Bw w w':=by
 unfold hasB
 unfold Cl;go_in
 go_wp2
 go_loopw [8] (fun i wr=>∃k:Nat,k<=l.length/\i=iv k/\Hid (∀j,j<k->∀x,l[j]? =some x->(x.name.toList==s.toList)=false)/\Bw w wr) (fun i _=>l.length-(intOf i).toNat)
 case atStart=>exact⟨0,by omega,rfl,fun j hj=>by omega,brf _ _⟩
 case round=>
  obtain⟨k,hk,rfl,ak,hB⟩:=hrel
  by_cases hlt:k<l.length
  ·obtain⟨r,hr⟩:=qgg hlt
   obtain⟨b,o,rfl,hc⟩:=(hA.below hB).at (i:=k) (r:=r.cs) (by rw[lgm,hr];rfl)
   have c0:wr.cell? (ad b (o+k*9))=some (.string r.name):=hc 0 _ rfl
   have c1:=hc 1 _ rfl
   have c2:=hc 2 _ rfl
   have c3:=hc 3 _ rfl
   have c4:=hc 4 _ rfl
   have c5:=hc 5 _ rfl
   have c6:=hc 6 _ rfl
   have c7:=hc 7 _ rfl
   have c8:=hc 8 _ rfl
   clear hc
   have hS:=jts r p s wr (by rw[(jaf hB).1 _ _ (qbl hp)];exact hp)
   unfold RuleD.v at hS
   cases hb:(r.name.toList==s.toList)
   ·have HR:Hid (∀j,j<k+1->∀x,l[j]? =some x->(x.name.toList==s.toList)=false):=fun j hj x hx=>by
     by_cases e:j=k
     ·subst e;rw[hr]at hx;obtain rfl:=osi hx;exact hb
     ·exact ak.out j (by omega) x hx
    rw[hb]at hS
    clear hb
    go_wp2_with fail
    refine hS.mono ?_
    rintro e w2 ⟨rfl,ac⟩
    go_wp2
    go_roundw
    case rel=>exact⟨k+1,by omega,by go_num,HR,(qtr hB ac)⟩
    case measure=>simp[intOf];omega
   ·have HR:Hid ((l.any fun x=>x.name.toList==s.toList)=true):=jmr hr hb
    rw[hb]at hS
    clear hb
    go_wp2_with fail
    refine hS.mono ?_
    rintro e w2 ⟨rfl,ac⟩
    go_wp2
    go_ret
    exact⟨⟨_,rfl,by rw[HR.out];simp⟩,(qtr hB ac)⟩
  ·have e:k=l.length:=by omega
   subst e
   have HR:Hid ((l.any fun x=>x.name.toList==s.toList)=false):=jsl ak.out
   go_wp2
   go_ret
   exact⟨⟨_,rfl,by rw[HR.out];rfl⟩,hB⟩
theorem jgh(l:List RuleD)(a:Option Addr)(cap p:Nat)(s:ByteArray)(w:World)(hA:Za w a 9 (l.map RuleD.cs))(hl:l.length<=1048576)(hp:w.cell? (ad p 1)=some (.string s)):
  Cl 143 #[.slice a l.length cap,.func (.func 142) #[] #[.pointer (some (ad p 0))]] w fun e w'=>e=.returned (.bool (hasB l s))/\Bw w w':=by
 have hI:=jkg l a cap p s w hA hl hp
 generalize hasB l s=q at *
 unfold Cl;go_in
 go_wp2_with fail
 refine hI.mono ?_
 rintro e w1 ⟨⟨n,rfl,hn⟩,hb⟩
 go_wp2
 go_ret
 exact⟨ret_bool (by simp),hb⟩
def hasZ(l:List ZoneD)(s:ByteArray):Bool:=l.any fun x=>x.name.toList==s.toList
theorem jql(r:ZoneD)(v:Value)(p:Nat)(s:ByteArray)(w:World)(hp:w.cell? (ad p 0)=some (.string s)):
  Cl 144 #[.agg #[.string r.name,v],.pointer (some (ad p 0))] w fun e w'=>e=.returned (.bool (r.name.toList==s.toList))/\Bw w w':=by
 have hlt:=qbl hp
 have az:p≠w.heap.size:=by simp at hlt;omega
 unfold Cl;go_in
 go_wp2
 go_ret
 exact⟨rfl,qal _ _⟩
theorem jkf(l:List ZoneD)(a:Option Addr)(cap p:Nat)(s:ByteArray)(w:World)(hA:Zo w a l)(hl:l.length<=1048576)(hp:w.cell? (ad p 0)=some (.string s)):
  Cl 167 #[.slice a l.length cap,.func (.func 144) #[] #[.pointer (some (ad p 0))]] w fun e w'=>(∃n:Int,e=.returned (iv n)/\decide (0<=n)=hasZ l s)/\Bw w w':=by
 unfold hasZ
 unfold Cl;go_in
 go_wp2
 go_loopw [8] (fun i wr=>∃k:Nat,k<=l.length/\i=iv k/\Hid (∀j,j<k->∀x,l[j]? =some x->(x.name.toList==s.toList)=false)/\Bw w wr) (fun i _=>l.length-(intOf i).toNat)
 case atStart=>exact⟨0,by omega,rfl,fun j hj=>by omega,brf _ _⟩
 case round=>
  obtain⟨k,hk,rfl,ak,hB⟩:=hrel
  by_cases hlt:k<l.length
  ·obtain⟨r,hr⟩:=qgg hlt
   obtain⟨b,o,rfl,c0,v,c1,hv⟩:=(hA.below hB).at hr
   have hS:=jql r v p s wr (by rw[(jaf hB).1 _ _ (qbl hp)];exact hp)
   obtain⟨ae,ce,rfl,_⟩:=hv
   generalize r.eras.length=en at *
   cases hb:(r.name.toList==s.toList)
   ·have HR:Hid (∀j,j<k+1->∀x,l[j]? =some x->(x.name.toList==s.toList)=false):=fun j hj x hx=>by
     by_cases e:j=k
     ·subst e;rw[hr]at hx;obtain rfl:=osi hx;exact hb
     ·exact ak.out j (by omega) x hx
    rw[hb]at hS
    clear hb
    go_wp2_with fail
    refine hS.mono ?_
    rintro e w2 ⟨rfl,ac⟩
    go_wp2
    go_roundw
    case rel=>exact⟨k+1,by omega,by go_num,HR,(qtr hB ac)⟩
    case measure=>simp[intOf];omega
   ·have HR:Hid ((l.any fun x=>x.name.toList==s.toList)=true):=jmr hr hb
    rw[hb]at hS
    clear hb
    go_wp2_with fail
    refine hS.mono ?_
    rintro e w2 ⟨rfl,ac⟩
    go_wp2
    go_ret
    exact⟨⟨_,rfl,by rw[HR.out];simp⟩,(qtr hB ac)⟩
  ·have e:k=l.length:=by omega
   subst e
   have HR:Hid ((l.any fun x=>x.name.toList==s.toList)=false):=jsl ak.out
   go_wp2
   go_ret
   exact⟨⟨_,rfl,by rw[HR.out];rfl⟩,hB⟩
theorem jgg(l:List ZoneD)(a:Option Addr)(cap p:Nat)(s:ByteArray)(w:World)(hA:Zo w a l)(hl:l.length<=1048576)(hp:w.cell? (ad p 0)=some (.string s)):
  Cl 145 #[.slice a l.length cap,.func (.func 144) #[] #[.pointer (some (ad p 0))]] w fun e w'=>e=.returned (.bool (hasZ l s))/\Bw w w':=by
 have hI:=jkf l a cap p s w hA hl hp
 generalize hasZ l s=q at *
 unfold Cl;go_in
 go_wp2_with fail
 refine hI.mono ?_
 rintro e w1 ⟨⟨n,rfl,hn⟩,hb⟩
 go_wp2
 go_ret
 exact⟨ret_bool (by simp),hb⟩
theorem ji1(r:RelD)(v:Value)(w:World)(hv:Zd w v r)(hz:r.zones.length<=1048576)(hl:r.links.length<=1048576):
  Cl 104 #[v] w fun e w'=>e=.returned (.bool (r.links.all fun x=>hasZ r.zones x.to_))/\Bw w w':=by
 obtain⟨a,b,c,ca,cb,cc,rfl,_,hZ,hA⟩:=hv.form
 clear hv
 generalize r.rules.length=rn at *
 generalize r.links=l at *
 generalize r.zones=zs at *
 have ag:=qal w (.cells #[.slice a rn ca,.slice b zs.length cb,.slice c l.length cc] 37)
 have eL:=hA.below ag
 have j8:=hZ.below ag
 have ai:(w.alloc (.cells #[.slice a rn ca,.slice b zs.length cb,.slice c l.length cc] 37)).cell? (ad w.heap.size 1)=some (.slice b zs.length cb):=by simp
 unfold Cl;go_in
 go_wp2
 generalize hW:(w.alloc (.cells #[.slice a rn ca,.slice b zs.length cb,.slice c l.length cc] 37))=W at *
 go_loopw [9] (fun i wr=>∃k:Nat,k<=l.length/\i=iv k/\Hid (∀j,j<k->∀x,l[j]? =some x->hasZ zs x.to_=true)/\Bw W wr) (fun i _=>l.length-(intOf i).toNat)
 case atStart=>exact⟨0,by omega,rfl,fun j hj=>by omega,by subst hW;exact brf _ _⟩
 case round=>
  obtain⟨k,hk,rfl,ak,hB⟩:=hrel
  have hT:Bw w wr:=qtr ag hB
  have ho:wr.cell? (ad w.heap.size 1)=some (.slice b zs.length cb):=by rw[(jaf hB).1 _ _ (qbl ai)];exact ai
  by_cases hlt:k<l.length
  ·obtain⟨x,hx⟩:=qgg hlt
   obtain⟨b',o,rfl,hc⟩:=(eL.below hB).at (i:=k) (r:=x.cs) (by rw[lgm,hx];rfl)
   have c0:wr.cell? (ad b' (o+k*2))=some (.string x.to_):=hc 0 _ rfl
   have c1:=hc 1 _ rfl
   clear hc
   have hl0:=qbl ho
   have an:Bw W (wr.alloc (.cells #[.string x.to_,.string x.name] 84)):=hB.alloc hB.size _
   have hS:=jgg zs b cb wr.heap.size x.to_ (wr.alloc (.cells #[.string x.to_,.string x.name] 84)) (j8.below an) hz (by simp)
   cases hb:hasZ zs x.to_
   ·have HR:Hid ((l.all fun x=>hasZ zs x.to_)=false):=jg5 hx hb
    rw[hb]at hS
    clear hb
    go_wp2_with fail
    refine hS.mono ?_
    rintro e w2 ⟨rfl,ac⟩
    go_wp2
    go_ret
    exact⟨ret_bool HR.out.symm,ag.trans ((qtr an ac).mono ag.size)⟩
   ·have HR:Hid (∀j,j<k+1->∀x,l[j]? =some x->hasZ zs x.to_=true):=fun j hj y hy=>by
     by_cases e:j=k
     ·subst e;rw[hx]at hy;obtain rfl:=osi hy;exact hb
     ·exact ak.out j (by omega) y hy
    rw[hb]at hS
    clear hb
    go_wp2_with fail
    refine hS.mono ?_
    rintro e w2 ⟨rfl,ac⟩
    go_wp2
    go_roundw
    case rel=>exact⟨k+1,by omega,by go_num,HR,(qtr an ac)⟩
    case measure=>simp[intOf];omega
  ·have e:k=l.length:=by omega
   subst e
   have HR:Hid ((l.all fun x=>hasZ zs x.to_)=true):=jed ak.out
   go_wp2
   go_ret
   exact⟨ret_bool HR.out.symm,hT⟩
def jb0(rs:List RuleD)(e:EraD):Bool:=e.rules.toList.isEmpty || hasB rs e.rules
theorem ji6(r:RelD)(v:Value)(w:World)(hv:Zd w v r)(hr:r.rules.length<=1048576)(hz:r.zones.length<=1048576)(gW:∀x∈r.zones,x.ok):
  Cl 103 #[v] w fun e w'=>e=.returned (.bool (r.zones.all fun z=>z.eras.all (jb0 r.rules)))/\Bw w w':=by
 obtain⟨a,b,c,ca,cb,cc,rfl,hR,hA,_⟩:=hv.form
 clear hv
 generalize r.rules=rs at *
 generalize r.links.length=ln at *
 generalize r.zones=l at *
 have ag:=qal w (.cells #[.slice a rs.length ca,.slice b l.length cb,.slice c ln cc] 37)
 have eL:=hA.below ag
 have dn:=hR.below ag
 have ai:(w.alloc (.cells #[.slice a rs.length ca,.slice b l.length cb,.slice c ln cc] 37)).cell? (ad w.heap.size 0)=some (.slice a rs.length ca):=by simp
 unfold Cl;go_in
 go_wp2
 generalize hW:(w.alloc (.cells #[.slice a rs.length ca,.slice b l.length cb,.slice c ln cc] 37))=W at *
 go_loopw [11] (fun i wr=>∃k:Nat,k<=l.length/\i=iv k/\Hid (∀j,j<k->∀x,l[j]? =some x->x.eras.all (jb0 rs)=true)/\Bw W wr) (fun i _=>l.length-(intOf i).toNat)
 case atStart=>exact⟨0,by omega,rfl,fun j hj=>by omega,by subst hW;exact brf _ _⟩
 case round=>
  obtain⟨k,hk,rfl,ak,hB⟩:=hrel
  have hT:Bw w wr:=qtr ag hB
  by_cases hlt:k<l.length
  ·obtain⟨x,hx⟩:=qgg hlt
   obtain⟨b',o,rfl,c0,v,c1,hv⟩:=(eL.below hB).at hx
   have ok:=(gW x (lmg hx)).2.1
   obtain⟨ae,ce,rfl,hE⟩:=hv
   unfold maxLen at ok
   obtain⟨nm,es⟩:=x
   simp only at *
   have an:Bw W (wr.alloc (.cells #[.string nm,.slice ae es.length ce] 81)):=hB.alloc hB.size _
   have pB:Za (wr.alloc (.cells #[.string nm,.slice ae es.length ce] 81)) ae 6 (es.map EraD.cs):=hE.below (qal _ _)
   go_wp2
   generalize hV:(wr.alloc (.cells #[.string nm,.slice ae es.length ce] 81))=V at *
   obtain⟨wo,rfl⟩:=qea wr
   go_loopw [18] (fun i wr=>∃m:Nat,m<=es.length/\i=iv m/\Hid (∀j,j<m->∀x,es[j]? =some x->jb0 rs x=true)/\Bw V wr) (fun i _=>es.length-(intOf i).toNat)
   case atStart=>exact⟨0,by omega,rfl,fun j hj=>by omega,by subst hV;exact brf _ _⟩
   case round=>
    obtain⟨m,hm,rfl,oq,hC⟩:=hrel
    have nQ:Bw W wr:=qtr an hC
    have ho:wr.cell? (ad w.heap.size 0)=some (.slice a rs.length ca):=by rw[(jaf nQ).1 _ _ (qbl ai)];exact ai
    by_cases hlt2:m<es.length
    ·obtain⟨y,hy⟩:=qgg hlt2
     obtain⟨b2,o2,rfl,hc⟩:=(pB.below hC).at (i:=m) (r:=y.cs) (by rw[lgm,hy];rfl)
     have d0:wr.cell? (ad b2 (o2+m*6))=some (iv y.offset):=hc 0 _ rfl
     have d1:=hc 1 _ rfl
     have d2:=hc 2 _ rfl
     have d3:=hc 3 _ rfl
     have d4:=hc 4 _ rfl
     have d5:=hc 5 _ rfl
     clear hc
     have hl0:=qbl ho
     have ax:Bw W (wr.alloc (.cells #[iv y.offset,.string y.rules,iv y.save,.string y.format,iv y.until_,.string y.of] 133)):=nQ.alloc nQ.size _
     have F7:Bw V (wr.alloc (.cells #[iv y.offset,.string y.rules,iv y.save,.string y.format,iv y.until_,.string y.of] 133)):=hC.alloc hC.size _
     have hS:=jgh rs a ca wr.heap.size y.rules (wr.alloc (.cells #[iv y.offset,.string y.rules,iv y.save,.string y.format,iv y.until_,.string y.of] 133)) (dn.below ax) hr (by simp)
     have jl:jb0 rs y=true->Hid (∀j,j<m+1->∀x,es[j]? =some x->jb0 rs x=true):=fun hb j hj z hz=>by
      by_cases e:j=m
      ·subst e;rw[hy]at hz;obtain rfl:=osi hz;exact hb
      ·exact oq.out j (by omega) z hz
     have lF:jb0 rs y=false->Hid ((l.all fun z=>z.eras.all (jb0 rs))=false):=fun hb=>jg5 hx (jg5 hy hb)
     unfold jb0 at jl lF
     cases he:y.rules.toList.isEmpty
     ·cases hb:hasB rs y.rules
      ·have HR:=lF (by rw[he,hb];rfl)
       rw[hb]at hS
       clear hb jl lF
       go_wp2_with fail
       refine hS.mono ?_
       rintro e w2 ⟨rfl,ac⟩
       go_wp2
       go_ret
       exact⟨ret_bool HR.out.symm,ag.trans ((qtr ax ac).mono ag.size)⟩
      ·have HR:=jl (by rw[he,hb];rfl)
       rw[hb]at hS
       clear hb jl lF
       go_wp2_with fail
       refine hS.mono ?_
       rintro e w2 ⟨rfl,ac⟩
       go_wp2
       go_roundw
       case rel=>exact⟨m+1,by omega,by go_num,HR,(qtr F7 ac)⟩
       case measure=>simp[intOf];omega
     ·have HR:=jl (by rw[he];rfl)
      clear hS jl lF
      go_wp2
      go_roundw
      case rel=>exact⟨m+1,by omega,by go_num,HR,F7⟩
      case measure=>simp[intOf];omega
    ·have e:m=es.length:=by omega
     subst e
     have HR:Hid (∀j,j<k+1->∀x,l[j]? =some x->x.eras.all (jb0 rs)=true):=fun j hj z hz=>by
      by_cases e:j=k
      ·subst e;rw[hx]at hz;obtain rfl:=osi hz;exact jed oq.out
      ·exact ak.out j (by omega) z hz
     go_wp2
     go_roundw
     case rel=>exact⟨k+1,by omega,by go_num,HR,nQ⟩
     case measure=>simp[intOf];omega
  ·have e:k=l.length:=by omega
   subst e
   have HR:Hid ((l.all fun z=>z.eras.all (jb0 rs))=true):=jed ak.out
   go_wp2
   go_ret
   exact⟨ret_bool HR.out.symm,hT⟩
