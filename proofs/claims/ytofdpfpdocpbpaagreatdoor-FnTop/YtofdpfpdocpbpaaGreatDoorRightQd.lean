/- Packed. -/
import Derived.Test.YtofdpfpdocpbpaaGreatDoorBasePd
import Derived.Test.YtofdpfpdocpbpaaGreatDoorOnPd
import Derived.Test.YtofdpfpdocpbpaaGreatDoorTabPd
import Derived.Test.YtofdpfpdocpbpaaGreatDoorShelfK
import Derived.Laws.EntriesVeiled
set_option maxHeartbeats 20000000
set_option linter.unusedSimpArgs false
namespace Go.Proofs.YtofdpfpdocpbpaaGreatDoor
section
open Go.RowKit
def ofB(s:ByteArray):Bool:=(s.toList==[119]) || ((s.toList==[115]) || (s.toList==[117]))
theorem jhc(s:ByteArray)(w:World):
  Calls Tryz.prog 113 #[.string s] w fun e w'=>e=.returned (.bool (ofB s))/\w'=w:=by
 unfold ofB
 cases h1:(s.toList==[119])
 ·cases h2:(s.toList==[115])
  ·go_enter Tryz.func113,Tryz.ntmps113
   go_wp2
   go_ret
   exact⟨ret_bool (by simp),rfl⟩
  ·go_enter Tryz.func113,Tryz.ntmps113
   go_wp2
   go_ret
   exact⟨ret_bool (by simp),rfl⟩
 ·go_enter Tryz.func113,Tryz.ntmps113
  go_wp2
  go_ret
  exact⟨ret_bool (by simp),rfl⟩
theorem je6(n:Int)(w:World):
  Calls Tryz.prog 114 #[.int .i64 n] w fun e w'=>e=.returned (.bool (isB n (-7200) 7200))/\w'=w:=by
 by_cases h: -7200<=n
 ·go_enter Tryz.func114,Tryz.ntmps114
  go_wp2
  go_ret
  exact⟨ret_bool (by unfold isB;simp[h]),rfl⟩
 ·go_enter Tryz.func114,Tryz.ntmps114
  go_wp2
  go_ret
  exact⟨ret_bool (jhl (by omega)).symm,rfl⟩
theorem je4(n:Int)(w:World):
  Calls Tryz.prog 111 #[.int .i64 n] w fun e w'=>e=.returned (.bool (isB n 1 9999))/\w'=w:=by
 by_cases h:1<=n
 ·go_enter Tryz.func111,Tryz.ntmps111
  go_wp2
  go_ret
  exact⟨ret_bool (by unfold isB;simp[h]),rfl⟩
 ·go_enter Tryz.func111,Tryz.ntmps111
  go_wp2
  go_ret
  exact⟨ret_bool (jhl (by omega)).symm,rfl⟩
def lbB(c:Int):Bool:=letB c || (c==43 || c==45)
def ltB(s:ByteArray):Bool:=decide (s.size<=6)&&(!(s.toList==[45])&&decide (∀i,i<s.size->lbB (jac s i)=true))
theorem j8n{s:ByteArray}(h:6<s.size):ltB s=false:=by unfold ltB;rw[decide_eq_false (by omega)];rfl
theorem j8m{s:ByteArray}(h:(s.toList==[45])=true):ltB s=false:=by unfold ltB;rw[h];simp
theorem j8l{s:ByteArray}{k:Nat}(hk:k<s.size)(h:lbB (jac s k)=false):ltB s=false:=by
 unfold ltB
 have:decide (∀i,i<s.size->lbB (jac s i)=true)=false:=decide_eq_false fun hn=>by rw[hn k hk]at h;cases h
 rw[this];simp
theorem j8o{s:ByteArray}(h:∀i,i<s.size->lbB (jac s i)=true):ltB s=(decide (s.size<=6)&& !(s.toList==[45])):=by
 unfold ltB;rw[decide_eq_true h];simp
theorem lbB_f{c:Int}(h:lbB c=false):letB c=false/\(c != 43)=true/\(c != 45)=true:=by
 unfold lbB at h;simp at h;simpa using h
theorem jht(s:ByteArray)(w:World)(hs:s.size<=maxLen):
  Calls Tryz.prog 115 #[.string s] w fun e w'=>e=.returned (.bool (ltB s))/\w'=w:=by
 unfold maxLen at hs
 by_cases h6:6<s.size
 ·rw[j8n h6]
  go_enter Tryz.func115,Tryz.ntmps115
  go_wp2
  go_ret
  exact⟨rfl,rfl⟩
 cases hm:(s.toList==[45])
 ·go_enter Tryz.func115,Tryz.ntmps115
  go_wp2
  go_loop [14] (fun i=>∃k:Nat,k<=s.size/\i=.int .i64 k/\Hid (∀j,j<k->lbB (jac s j)=true)) (fun i=>s.size-(intOf i).toNat)
  case atStart=>exact⟨0,by omega,rfl,upto_zero⟩
  case round=>
   obtain⟨k,hk,rfl,hall⟩:=hrel
   by_cases hlt:k<s.size
   ·have hB:=fun w=>jcx (jac s k) w
    have e:=jaf s k hlt
    cases hb:lbB (jac s k)
    ·have HB:Hid (ltB s=false):=j8l hlt hb
     obtain⟨g1,g2,g3⟩:=lbB_f hb
     rw[g1, <- e]at hB
     rw[<- e]at g2 g3
     clear hb e g1
     go_wp2_with (go_at_call 124;refine(hB _).mono ?_;rintro e w' ⟨rfl,rfl⟩)
     go_ret
     exact⟨ret_bool HB.out.symm,rfl⟩
    ·have HB:Hid (∀j,j<k+1->lbB (jac s j)=true):=jfl hall.out hb
     unfold lbB at hb
     cases g1:letB (jac s k)
     ·rw[g1]at hb hB
      simp at hb
      rw[<- e]at hB hb
      by_cases g2:(s[k].toNat:Int)=43
      ·have g2':((s[k].toNat:Int) != 43)=false:=by simp[g2]
       clear e g1 hb g2
       go_wp2_with (go_at_call 124;refine(hB _).mono ?_;rintro e w' ⟨rfl,rfl⟩)
       go_round
       case rel=>exact⟨k+1,by omega,by go_num,HB⟩
       case measure=>simp[intOf];omega
      ·have g2':((s[k].toNat:Int) != 43)=true:=by simpa using g2
       have g3':((s[k].toNat:Int) != 45)=false:=by simp;omega
       clear e g1 hb g2
       go_wp2_with (go_at_call 124;refine(hB _).mono ?_;rintro e w' ⟨rfl,rfl⟩)
       go_round
       case rel=>exact⟨k+1,by omega,by go_num,HB⟩
       case measure=>simp[intOf];omega
     ·rw[g1, <- e]at hB
      clear e g1 hb
      go_wp2_with (go_at_call 124;refine(hB _).mono ?_;rintro e w' ⟨rfl,rfl⟩)
      go_round
      case rel=>exact⟨k+1,by omega,by go_num,HB⟩
      case measure=>simp[intOf];omega
   ·have e:k=s.size:=by omega
    subst e
    have HB:Hid (ltB s=true):=by
     simp only[Hid];rw[j8o hall.out,hm];simp;omega
    go_wp2
    go_ret
    exact⟨ret_bool HB.out.symm,rfl⟩
 ·rw[j8m hm]
  go_enter Tryz.func115,Tryz.ntmps115
  go_wp2
  go_ret
  exact⟨rfl,rfl⟩
end
section
open Go.RowKit
def Zm(w:World):Prop:=Tab w/\Mx w
theorem Zm.of_below{w w':World}(h:Zm w)(hb:Below w.heap.size w w'):Zm w':=⟨h.1.of_below hb,h.2.of_below hb⟩
theorem Zm.alloc{w:World}(h:Zm w)(o:Obj):Zm (w.alloc o):=⟨h.1.alloc o,h.2.alloc o⟩
def onB(s:ByteArray):Bool:=jbp 2000 1 s != -1000000
theorem jod(s:ByteArray)(w:World)(hE:Zm w)(hz:s.size<=1048576):
  Calls Tryz.prog 112 #[.string s] w fun e w'=>e=.returned (.bool (onB s))/\Below w.heap.size w w':=by
 have hX:=fun w (h:Zm w)=>jn2 2000 1 s w h.1 h.2 hz
 unfold onB
 generalize jbp 2000 1 s=r at *
 go_enter Tryz.func112,Tryz.ntmps112
 go_wp2_with fail
 refine(hX _ hE).mono ?_
 rintro e w1 ⟨rfl,hb⟩
 go_wp2
 go_ret
 exact⟨rfl,hb⟩
def jbm(r:RuleD):Bool:=jbs r.name&&(isB r.lo 1 9999&&(isB r.hi r.lo 9999&&(isB r.month 1 12&&(onB r.on&&(isB r.at_ 0 604800&&(ofB r.of&&(isB r.save (-7200) 7200&&ltB r.letter)))))))
def j0h(r:RuleD):Bool:=jbs r.name&&(isB r.lo 1 9999&&(isB r.hi 1 9999&&(decide (r.lo<=r.hi)&&(decide (1<=r.month)&&(decide (r.month<=12)&&(onB r.on&&(decide (0<=r.at_)&&(decide (r.at_<=604800)&&(ofB r.of&&(isB r.save (-7200) 7200&&ltB r.letter))))))))))
theorem jwl(r:RuleD):j0h r=jbm r:=by
 unfold j0h jbm
 have e1:isB r.month 1 12=(decide (1<=r.month)&&decide (r.month<=12)):=by unfold isB;simp
 have e2:isB r.at_ 0 604800=(decide (0<=r.at_)&&decide (r.at_<=604800)):=by unfold isB;simp
 have e3:(isB r.lo 1 9999&&(isB r.hi 1 9999&&decide (r.lo<=r.hi)))=(isB r.lo 1 9999&&isB r.hi r.lo 9999):=by
  rw[Bool.eq_iff_iff];unfold isB;simp;omega
 rw[e1,e2]
 have e4:∀x,(isB r.lo 1 9999&&(isB r.hi 1 9999&&(decide (r.lo<=r.hi)&&x)))=(isB r.lo 1 9999&&(isB r.hi r.lo 9999&&x)):=fun x=>by
  rw[<- Bool.and_assoc (isB r.hi 1 9999), <- Bool.and_assoc (isB r.lo 1 9999),e3,Bool.and_assoc]
 rw[e4]
 simp only[Bool.and_assoc]
theorem ji9(r:RuleD)(w:World)(hE:Zm w)(ok:r.ok)(hz:r.on.size<=1048576):
  Calls Tryz.prog 72 #[r.v] w fun e w'=>e=.returned (.bool (j0h r))/\Below w.heap.size w w':=by
 obtain⟨name,lo,hi,month,on,at_,of,save,letter⟩:=r
 obtain⟨k1,k2,k3,k4⟩:=ok
 simp only[RuleD.v,j0h]at *
 have h1:=fun w=>jau name w k1
 have h2:=fun w=>je4 lo w
 have h3:=fun w=>je4 hi w
 have h4:=fun w (h:Zm w)=>jod on w h hz
 have h5:=fun w=>jhc of w
 have h6:=fun w=>je6 save w
 have h7:=fun w=>jht letter w k4
 generalize jbs name=b1 at *
 generalize isB lo 1 9999=b2 at *
 generalize isB hi 1 9999=b3 at *
 generalize onB on=b4 at *
 generalize ofB of=b5 at *
 generalize isB save (-7200) 7200=b6 at *
 generalize ltB letter=b7 at *
 have hB0:=fun o=>qal w o
 go_enter Tryz.func72,Tryz.ntmps72
 go_wp2_with fail
 refine(h1 _).mono ?_
 rintro e w9 ⟨rfl,rfl⟩
 cases b1
 case false=>
  go_wp2
  go_ret
  exact⟨ret_bool (by simp),(hB0 _)⟩
 go_wp2_with fail
 refine(h2 _).mono ?_
 rintro e w9 ⟨rfl,rfl⟩
 cases b2
 case false=>
  go_wp2
  go_ret
  exact⟨ret_bool (by simp),(hB0 _)⟩
 go_wp2_with fail
 refine(h3 _).mono ?_
 rintro e w9 ⟨rfl,rfl⟩
 cases b3
 case false=>
  go_wp2
  go_ret
  exact⟨ret_bool (by simp),(hB0 _)⟩
 by_cases g1:lo<=hi
 case neg=>
  go_wp2
  go_ret
  exact⟨ret_bool (by simp;intros;omega),(hB0 _)⟩
 by_cases g2:1<=month
 case neg=>
  go_wp2
  go_ret
  exact⟨ret_bool (by simp;intros;omega),(hB0 _)⟩
 by_cases g3:month<=12
 case neg=>
  go_wp2
  go_ret
  exact⟨ret_bool (by simp;intros;omega),(hB0 _)⟩
 go_wp2_with fail
 refine(h4 _ (hE.alloc _)).mono ?_
 rintro e w1 ⟨rfl,hb1⟩
 obtain⟨hc,_⟩:=jal hb1
 have hlt:w.heap.size<w1.heap.size:=by have:=hb1.size;simp at this;omega
 have hB1:=(hB0 _).trans (hb1.mono (by simp))
 cases b4
 case false=>
  go_wp2
  go_ret
  exact⟨ret_bool (by simp),hB1⟩
 by_cases g4:0<=at_
 case neg=>
  go_wp2
  go_ret
  exact⟨ret_bool (by simp;intros;omega),hB1⟩
 by_cases g5:at_<=604800
 case neg=>
  go_wp2
  go_ret
  exact⟨ret_bool (by simp;intros;omega),hB1⟩
 go_wp2_with fail
 refine(h5 _).mono ?_
 rintro e w9 ⟨rfl,rfl⟩
 cases b5
 case false=>
  go_wp2
  go_ret
  exact⟨ret_bool (by simp),hB1⟩
 go_wp2_with fail
 refine(h6 _).mono ?_
 rintro e w9 ⟨rfl,rfl⟩
 cases b6
 case false=>
  go_wp2
  go_ret
  exact⟨ret_bool (by simp),hB1⟩
 go_wp2_with fail
 refine(h7 _).mono ?_
 rintro e w9 ⟨rfl,rfl⟩
 go_wp2
 go_ret
 exact⟨ret_bool (by simp[*]),hB1⟩
theorem je7(r:RuleD)(w:World)(hE:Zm w)(ok:r.ok)(hz:r.on.size<=1048576):
  Calls Tryz.prog 72 #[r.v] w fun e w'=>e=.returned (.bool (jbm r))/\Below w.heap.size w w':=by
 rw[<- jwl];exact ji9 r w hE ok hz
end
section
open Go.RowKit
def fbB(c:Int):Bool:=letB c || (digB c || (c==43 || (c==45 || (c==37 || c==47))))
def strokes(s:ByteArray):Nat->Int
 |0=>0
 |k+1=>strokes s k+(if jac s k=47 then 1 else 0)
def fmtB(s:ByteArray):Bool:=decide (1<=s.size/\s.size<=12/\strokes s s.size<=1/\∀i,i<s.size->fbB (jac s i)=true)
theorem jym{s:ByteArray}(h:¬(1<=s.size/\s.size<=12/\strokes s s.size<=1)):fmtB s=false:=decide_eq_false fun hn=>h ⟨hn.1,hn.2.1,hn.2.2.1⟩
theorem j6o{s:ByteArray}{k:Nat}(hk:k<s.size)(h:fbB (jac s k)=false):fmtB s=false:=decide_eq_false fun hn=>by rw[hn.2.2.2 k hk]at h;cases h
theorem j6n{s:ByteArray}(h1:1<=s.size)(h2:s.size<=12)(h3:strokes s s.size<=1)(h:∀i,i<s.size->fbB (jac s i)=true):fmtB s=true:=decide_eq_true ⟨h1,h2,h3,h⟩
theorem jgv(c:Int)(w:World):
  Calls Tryz.prog 200 #[.int .u8 c] w fun e w'=>e=.returned (.bool (fbB c))/\w'=w:=by
 have hL:=fun w=>jcx c w
 have hD:=fun w=>jej c w
 unfold fbB
 generalize letB c=b1 at *
 generalize digB c=b2 at *
 go_enter Tryz.func200,Tryz.ntmps200
 go_wp2_with fail
 refine(hL _).mono ?_
 rintro e w1 ⟨rfl,rfl⟩
 cases b1
 case true=>
  go_wp2
  go_ret
  exact⟨ret_bool (by simp),rfl⟩
 go_wp2_with fail
 refine(hD _).mono ?_
 rintro e w1 ⟨rfl,rfl⟩
 cases b2
 case true=>
  go_wp2
  go_ret
  exact⟨ret_bool (by simp),rfl⟩
 go_wp2
 all_goals go_ret
 all_goals exact⟨ret_bool (by first|(simp_all;done)|simp[Bool.or_assoc]),rfl⟩
theorem jlt(s:ByteArray)(k:Nat)(hk:k<=s.size):strokes s k=((s.data.toList.take k).count 47:Nat):=by
 have hz:s.data.toList.length=s.size:=by rw[Array.length_toList];rfl
 induction k with
 |zero=>simp[strokes]
 |succ k ih=>
  have hlt:k<s.data.toList.length:=by omega
  have e:jac s k=(s.data.toList[k].toNat:Int):=by
   rw[<- jaf s k (by omega)];rfl
  rw[List.take_add_one,List.getElem?_eq_getElem hlt,List.count_append,strokes,ih (by omega),e]
  by_cases h:s.data.toList[k]=47
  ·rw[h];simp
  ·have h2:¬(s.data.toList[k].toNat:Int)=47:=fun hn=>h (by
    apply UInt8.toNat_inj.mp
    show s.data.toList[k].toNat=47
    omega)
   have hc:List.count 47 [s.data.toList[k]]=0:=List.count_eq_zero_of_not_mem (by simpa using fun hn=>h hn.symm)
   rw[if_neg h2,Option.toList_some,hc]
   simp
theorem jpk(s:ByteArray):(Lib.countByte s.data.toList 47:Int)=strokes s s.size:=by
 have hz:s.data.toList.length=s.size:=by rw[Array.length_toList];rfl
 rw[jlt s s.size (Nat.le_refl _),List.take_of_length_le (by omega)]
 rfl
theorem jhw(s:ByteArray)(w:World)(hs:s.size<=maxLen):
  Calls Tryz.prog 158 #[.string s] w fun e w'=>e=.returned (.bool (fmtB s))/\w'=w:=by
 unfold maxLen at hs
 by_cases h1:s.size<1
 ·rw[jym (by omega)]
  go_enter Tryz.func158,Tryz.ntmps158
  go_wp2
  go_ret
  exact⟨rfl,rfl⟩
 by_cases h2:12<s.size
 ·rw[jym (by omega)]
  go_enter Tryz.func158,Tryz.ntmps158
  go_wp2
  go_ret
  exact⟨rfl,rfl⟩
 have hC:=fun w=>Tryz.strings_Count_one s 47 w
 rw[jpk]at hC
 by_cases h3:1<strokes s s.size
 ·rw[jym (by omega)]
  generalize strokes s s.size=n at *
  go_enter Tryz.func158,Tryz.ntmps158
  go_wp2_with (go_at_call 64;refine(hC _).mono ?_;rintro e w' ⟨rfl,rfl⟩)
  go_ret
  exact⟨rfl,rfl⟩
 have h3':Hid (strokes s s.size<=1):=by simp only[Hid];omega
 generalize hn:strokes s s.size=n at hC h3
 go_enter Tryz.func158,Tryz.ntmps158
 go_wp2_with (go_at_call 64;refine(hC _).mono ?_;rintro e w' ⟨rfl,rfl⟩)
 go_loop [19] (fun i=>∃k:Nat,k<=s.size/\i=.int .i64 k/\Hid (∀j,j<k->fbB (jac s j)=true)) (fun i=>s.size-(intOf i).toNat)
 case atStart=>exact⟨0,by omega,rfl,upto_zero⟩
 case round=>
  obtain⟨k,hk,rfl,hall⟩:=hrel
  by_cases hlt:k<s.size
  ·have hB:=fun w=>jgv (jac s k) w
   have e:=jaf s k hlt
   cases hb:fbB (jac s k)
   ·have HB:Hid (fmtB s=false):=j6o hlt hb
    rw[hb, <- e]at hB
    clear hb e
    go_wp2_with (go_at_call 200;refine(hB _).mono ?_;rintro e w' ⟨rfl,rfl⟩)
    go_ret
    exact⟨ret_bool HB.out.symm,rfl⟩
   ·have HB:Hid (∀j,j<k+1->fbB (jac s j)=true):=jfl hall.out hb
    rw[hb, <- e]at hB
    clear hb e
    go_wp2_with (go_at_call 200;refine(hB _).mono ?_;rintro e w' ⟨rfl,rfl⟩)
    go_round
    case rel=>exact⟨k+1,by omega,by go_num,HB⟩
    case measure=>simp[intOf];omega
  ·have e:k=s.size:=by omega
   subst e
   have HB:Hid (fmtB s=true):=j6n (by omega) (by omega) h3'.out hall.out
   go_wp2
   go_ret
   exact⟨ret_bool HB.out.symm,rfl⟩
end
section
open Go.RowKit
def erB(e:EraD):Bool:=if e.rules.toList.isEmpty=true then isB e.save (-7200) 7200 else jbs e.rules&&decide (e.save=0)
theorem jf3(e:EraD)(w:World)(ok:e.ok):
  Calls Tryz.prog 157 #[e.v] w fun x w'=>x=.returned (.bool (erB e))/\Below w.heap.size w w':=by
 obtain⟨offset,rules,save,format,until_,of⟩:=e
 obtain⟨k1,k2,k3⟩:=ok
 simp only[EraD.v,erB]at *
 have h1:=fun w=>je6 save w
 have h2:=fun w=>jau rules w k1
 generalize isB save (-7200) 7200=b1 at *
 generalize jbs rules=b2 at *
 cases he:rules.toList.isEmpty
 ·simp only[Bool.false_eq_true,if_false]
  go_enter Tryz.func157,Tryz.ntmps157
  go_wp2_with fail
  refine(h2 _).mono ?_
  rintro e w1 ⟨rfl,rfl⟩
  cases b2
  ·go_wp2
   go_ret
   exact⟨ret_bool (by simp),qal _ _⟩
  ·go_wp2
   go_ret
   exact⟨ret_bool (by simp;rfl),qal _ _⟩
 ·simp only[if_true]
  go_enter Tryz.func157,Tryz.ntmps157
  go_wp2_with fail
  refine(h1 _).mono ?_
  rintro e w1 ⟨rfl,rfl⟩
  go_wp2
  go_ret
  exact⟨rfl,qal _ _⟩
def eraP(e:EraD):Bool:=decide (-86400<=e.offset)&&(decide (e.offset<=86400)&&(erB e&&(fmtB e.format&&(decide (-62135596800<=e.until_)&&(decide (e.until_<=253402300799)&&ofB e.of)))))
theorem jhg(n:Int)(w:World):
  Calls Tryz.prog 81 #[.int .i64 n] w fun e w'=>e=.returned (.bool (isB n (-62135596800) 253402300799))/\w'=w:=by
 by_cases h: -62135596800<=n
 ·go_enter Tryz.func81,Tryz.ntmps81
  go_wp2
  go_ret
  exact⟨ret_bool (by unfold isB;simp[h]),rfl⟩
 ·go_enter Tryz.func81,Tryz.ntmps81
  go_wp2
  go_ret
  exact⟨ret_bool (jhl (by omega)).symm,rfl⟩
theorem jf4(e:EraD)(w:World)(ok:e.ok):
  Calls Tryz.prog 117 #[e.v] w fun x w'=>x=.returned (.bool (eraP e))/\Below w.heap.size w w':=by
 have h1:=fun w=>jf3 e w ok
 unfold eraP
 generalize erB e=b1 at *
 obtain⟨offset,rules,save,format,until_,of⟩:=e
 obtain⟨k1,k2,k3⟩:=ok
 simp only[EraD.v]at *
 have h2:=fun w=>jhw format w k2
 have h3:=fun w=>jhc of w
 have h4:=fun w=>jhg until_ w
 generalize fmtB format=b2 at *
 generalize ofB of=b3 at *
 have hB0:=fun o=>qal w o
 go_enter Tryz.func117,Tryz.ntmps117
 by_cases g1: -86400<=offset
 case neg=>
  go_wp2
  go_ret
  exact⟨ret_bool (by simp;intros;omega),hB0 _⟩
 by_cases g2:offset<=86400
 case neg=>
  go_wp2
  go_ret
  exact⟨ret_bool (by simp;intros;omega),hB0 _⟩
 go_wp2_with fail
 refine(h1 _).mono ?_
 rintro e w1 ⟨rfl,hb1⟩
 obtain⟨hc,_⟩:=jal hb1
 have hlt:w.heap.size<w1.heap.size:=by have:=hb1.size;simp at this;omega
 have hB1:=(hB0 _).trans (hb1.mono (by simp))
 cases b1
 case false=>
  go_wp2
  go_ret
  exact⟨ret_bool (by simp),hB1⟩
 go_wp2_with fail
 refine(h2 _).mono ?_
 rintro e w9 ⟨rfl,rfl⟩
 cases b2
 case false=>
  go_wp2
  go_ret
  exact⟨ret_bool (by simp),hB1⟩
 by_cases g34: -62135596800<=until_/\until_<=253402300799
 case neg=>
  rw[jhl g34]at h4
  go_wp2_with fail
  refine(h4 _).mono ?_
  rintro e w8 ⟨rfl,rfl⟩
  go_wp2
  go_ret
  exact⟨ret_bool (by simp;intros;omega),hB1⟩
 rw[jnu g34.1 g34.2]at h4
 obtain⟨g3,g4⟩:=g34
 go_wp2_with fail
 refine(h4 _).mono ?_
 rintro e w8 ⟨rfl,rfl⟩
 go_wp2_with fail
 refine(h3 _).mono ?_
 rintro e w9 ⟨rfl,rfl⟩
 go_wp2
 go_ret
 exact⟨ret_bool (by simp[*]),hB1⟩
def jgr(l:LinkD):Bool:=jbs l.to_&&jbs l.name
theorem jkl(l:LinkD)(w:World)(ok:l.ok):
  Calls Tryz.prog 76 #[l.v] w fun x w'=>x=.returned (.bool (jgr l))/\Below w.heap.size w w':=by
 obtain⟨to_,name⟩:=l
 obtain⟨k1,k2⟩:=ok
 simp only[LinkD.v,jgr]at *
 have h1:=fun w=>jau to_ w k1
 have h2:=fun w=>jau name w k2
 generalize jbs to_=b1 at *
 generalize jbs name=b2 at *
 go_enter Tryz.func76,Tryz.ntmps76
 go_wp2_with fail
 refine(h1 _).mono ?_
 rintro e w1 ⟨rfl,rfl⟩
 cases b1
 case false=>
  go_wp2
  go_ret
  exact⟨ret_bool (by simp),qal _ _⟩
 go_wp2_with fail
 refine(h2 _).mono ?_
 rintro e w1 ⟨rfl,rfl⟩
 go_wp2
 go_ret
 exact⟨ret_bool (by simp),qal _ _⟩
end
section
open Go.RowKit
theorem jj6{α:Type}{l:List α}{p:α->Bool}{k:Nat}{x:α}(hk:l[k]? =some x)(h:p x=false):l.all p=false:=by
 rw[List.all_eq_false]
 exact⟨x,List.mem_of_getElem? hk,by simp[h]⟩
theorem jfj{α:Type}{l:List α}{p:α->Bool}(h:∀j,j<l.length->∀x,l[j]? =some x->p x=true):l.all p=true:=by
 rw[List.all_eq_true]
 intro x hx
 obtain⟨j,hj⟩:=List.getElem?_of_mem hx
 exact h j (List.getElem?_eq_some_iff.mp hj).1 x hj
theorem jol(l:List RuleD)(a:Option Addr)(cap:Nat)(w:World)(hE:Zm w)(hA:Zd w a 9 (l.map RuleD.cs))(hok:∀r∈l,r.ok)(hz:∀r∈l,r.on.size<=1048576)(hl:l.length<=1048576):
  Calls Tryz.prog 71 #[.slice a l.length cap,.func (.func 72) #[] #[]] w fun e w'=>e=.returned (.bool (l.all jbm))/\Below w.heap.size w w':=by
 go_enter Tryz.func71,Tryz.ntmps71
 go_wp2
 go_loopw [9] (fun i wr=>∃k:Nat,k<=l.length/\i=.int .i64 k/\Hid (∀j,j<k->∀x,l[j]? =some x->jbm x=true)/\Below w.heap.size w wr) (fun i _=>l.length-(intOf i).toNat)
 case atStart=>exact⟨0,by omega,rfl,fun j hj=>by omega,Below.refl _ _⟩
 case round=>
  obtain⟨k,hk,rfl,hall,hB⟩:=hrel
  by_cases hlt:k<l.length
  ·obtain⟨r,hr⟩:=qgg hlt
   have hrow:(l.map RuleD.cs)[k]? =some r.cs:=by rw[List.getElem?_map,hr];rfl
   obtain⟨b,o,rfl,hc⟩:=(hA.below hB).at (i:=k) hrow
   have ok:=hok r (List.mem_of_getElem? hr)
   have hS:=fun w (h:Zm w)=>je7 r w h ok (hz r (List.mem_of_getElem? hr))
   have hE1:=hE.of_below hB
   have c0:wr.cell? ⟨b,o+k*9,none⟩=some (.string r.name):=hc 0 _ rfl
   have c1:=hc 1 _ rfl
   have c2:=hc 2 _ rfl
   have c3:=hc 3 _ rfl
   have c4:=hc 4 _ rfl
   have c5:=hc 5 _ rfl
   have c6:=hc 6 _ rfl
   have c7:=hc 7 _ rfl
   have c8:=hc 8 _ rfl
   clear hc
   unfold RuleD.v at hS
   cases hb:jbm r
   ·have HR:Hid (l.all jbm=false):=jj6 hr hb
    rw[hb]at hS
    clear hb
    go_wp2_with fail
    refine(hS _ (hE1.alloc _)).mono ?_
    rintro e w2 ⟨rfl,hb2⟩
    go_wp2
    go_ret
    exact⟨ret_bool HR.out.symm,(hB.alloc hB.size _).trans (hb2.mono (by simp;have:=hB.size;omega))⟩
   ·have HR:Hid (∀j,j<k+1->∀x,l[j]? =some x->jbm x=true):=fun j hj x hx=>by
     by_cases e:j=k
     ·subst e;rw[hr]at hx;obtain rfl:=Option.some.inj hx;exact hb
     ·exact hall.out j (by omega) x hx
    rw[hb]at hS
    clear hb
    go_wp2_with fail
    refine(hS _ (hE1.alloc _)).mono ?_
    rintro e w2 ⟨rfl,hb2⟩
    go_wp2
    go_roundw
    case rel=>exact⟨k+1,by omega,by go_num,HR,(hB.alloc hB.size _).trans (hb2.mono (by simp;have:=hB.size;omega))⟩
    case measure=>simp[intOf];omega
  ·have e:k=l.length:=by omega
   subst e
   have HR:Hid (l.all jbm=true):=jfj hall.out
   go_wp2
   go_ret
   exact⟨ret_bool HR.out.symm,hB⟩
theorem jqi(l:List EraD)(a:Option Addr)(cap:Nat)(w:World)(hA:Zd w a 6 (l.map EraD.cs))(hok:∀r∈l,r.ok)(hl:l.length<=1048576):
  Calls Tryz.prog 116 #[.slice a l.length cap,.func (.func 117) #[] #[]] w fun e w'=>e=.returned (.bool (l.all eraP))/\Below w.heap.size w w':=by
 go_enter Tryz.func116,Tryz.ntmps116
 go_wp2
 go_loopw [9] (fun i wr=>∃k:Nat,k<=l.length/\i=.int .i64 k/\Hid (∀j,j<k->∀x,l[j]? =some x->eraP x=true)/\Below w.heap.size w wr) (fun i _=>l.length-(intOf i).toNat)
 case atStart=>exact⟨0,by omega,rfl,fun j hj=>by omega,Below.refl _ _⟩
 case round=>
  obtain⟨k,hk,rfl,hall,hB⟩:=hrel
  by_cases hlt:k<l.length
  ·obtain⟨r,hr⟩:=qgg hlt
   have hrow:(l.map EraD.cs)[k]? =some r.cs:=by rw[List.getElem?_map,hr];rfl
   obtain⟨b,o,rfl,hc⟩:=(hA.below hB).at (i:=k) hrow
   have ok:=hok r (List.mem_of_getElem? hr)
   have hS:=fun w=>jf4 r w ok
   have c0:wr.cell? ⟨b,o+k*6,none⟩=some (.int .i64 r.offset):=hc 0 _ rfl
   have c1:=hc 1 _ rfl
   have c2:=hc 2 _ rfl
   have c3:=hc 3 _ rfl
   have c4:=hc 4 _ rfl
   have c5:=hc 5 _ rfl
   clear hc
   unfold EraD.v at hS
   cases hb:eraP r
   ·have HR:Hid (l.all eraP=false):=jj6 hr hb
    rw[hb]at hS
    clear hb
    go_wp2_with fail
    refine(hS _).mono ?_
    rintro e w2 ⟨rfl,hb2⟩
    go_wp2
    go_ret
    exact⟨ret_bool HR.out.symm,(hB.alloc hB.size _).trans (hb2.mono (by simp;have:=hB.size;omega))⟩
   ·have HR:Hid (∀j,j<k+1->∀x,l[j]? =some x->eraP x=true):=fun j hj x hx=>by
     by_cases e:j=k
     ·subst e;rw[hr]at hx;obtain rfl:=Option.some.inj hx;exact hb
     ·exact hall.out j (by omega) x hx
    rw[hb]at hS
    clear hb
    go_wp2_with fail
    refine(hS _).mono ?_
    rintro e w2 ⟨rfl,hb2⟩
    go_wp2
    go_roundw
    case rel=>exact⟨k+1,by omega,by go_num,HR,(hB.alloc hB.size _).trans (hb2.mono (by simp;have:=hB.size;omega))⟩
    case measure=>simp[intOf];omega
  ·have e:k=l.length:=by omega
   subst e
   have HR:Hid (l.all eraP=true):=jfj hall.out
   go_wp2
   go_ret
   exact⟨ret_bool HR.out.symm,hB⟩
theorem jom(l:List LinkD)(a:Option Addr)(cap:Nat)(w:World)(hA:Zd w a 2 (l.map LinkD.cs))(hok:∀r∈l,r.ok)(hl:l.length<=1048576):
  Calls Tryz.prog 75 #[.slice a l.length cap,.func (.func 76) #[] #[]] w fun e w'=>e=.returned (.bool (l.all jgr))/\Below w.heap.size w w':=by
 go_enter Tryz.func75,Tryz.ntmps75
 go_wp2
 go_loopw [9] (fun i wr=>∃k:Nat,k<=l.length/\i=.int .i64 k/\Hid (∀j,j<k->∀x,l[j]? =some x->jgr x=true)/\Below w.heap.size w wr) (fun i _=>l.length-(intOf i).toNat)
 case atStart=>exact⟨0,by omega,rfl,fun j hj=>by omega,Below.refl _ _⟩
 case round=>
  obtain⟨k,hk,rfl,hall,hB⟩:=hrel
  by_cases hlt:k<l.length
  ·obtain⟨r,hr⟩:=qgg hlt
   have hrow:(l.map LinkD.cs)[k]? =some r.cs:=by rw[List.getElem?_map,hr];rfl
   obtain⟨b,o,rfl,hc⟩:=(hA.below hB).at (i:=k) hrow
   have ok:=hok r (List.mem_of_getElem? hr)
   have hS:=fun w=>jkl r w ok
   have c0:wr.cell? ⟨b,o+k*2,none⟩=some (.string r.to_):=hc 0 _ rfl
   have c1:=hc 1 _ rfl
   clear hc
   unfold LinkD.v at hS
   cases hb:jgr r
   ·have HR:Hid (l.all jgr=false):=jj6 hr hb
    rw[hb]at hS
    clear hb
    go_wp2_with fail
    refine(hS _).mono ?_
    rintro e w2 ⟨rfl,hb2⟩
    go_wp2
    go_ret
    exact⟨ret_bool HR.out.symm,(hB.alloc hB.size _).trans (hb2.mono (by simp;have:=hB.size;omega))⟩
   ·have HR:Hid (∀j,j<k+1->∀x,l[j]? =some x->jgr x=true):=fun j hj x hx=>by
     by_cases e:j=k
     ·subst e;rw[hr]at hx;obtain rfl:=Option.some.inj hx;exact hb
     ·exact hall.out j (by omega) x hx
    rw[hb]at hS
    clear hb
    go_wp2_with fail
    refine(hS _).mono ?_
    rintro e w2 ⟨rfl,hb2⟩
    go_wp2
    go_roundw
    case rel=>exact⟨k+1,by omega,by go_num,HR,(hB.alloc hB.size _).trans (hb2.mono (by simp;have:=hB.size;omega))⟩
    case measure=>simp[intOf];omega
  ·have e:k=l.length:=by omega
   subst e
   have HR:Hid (l.all jgr=true):=jfj hall.out
   go_wp2
   go_ret
   exact⟨ret_bool HR.out.symm,hB⟩
end
section
open Go.RowKit
def upB:List EraD->Bool
 |[]=>true
 |[_]=>true
 |x::y::l=>decide (x.until_<y.until_)&&upB (y::l)
theorem up_no{es:List EraD}:∀{i:Nat} {x y:EraD},es[i]? =some x->es[i+1]? =some y->¬x.until_<y.until_->upB es=false:=by
 induction es with
 |nil=>intro i x y h;simp at h
 | cons a l ih=>
  intro i x y hx hy hn
  match l,i with
  |[],_=>simp at hy
  |b::l,0=>
   simp at hx hy
   subst hx hy
   simp[upB,hn]
  |b::l,i+1=>
   have:=ih (i:=i) (x:=x) (y:=y) (by simpa using hx) (by simpa using hy) hn
   simp only[upB,this,Bool.and_false]
theorem j7n{es:List EraD}(h:∀i x y,es[i]? =some x->es[i+1]? =some y->x.until_<y.until_):upB es=true:=by
 induction es with
 |nil=>rfl
 | cons a l ih=>
  match l with
  |[]=>rfl
  |b::l=>
   have h0:=h 0 a b rfl rfl
   have:=ih fun i x y hx hy=>h (i+1) x y (by simpa using hx) (by simpa using hy)
   simp only[upB,this,decide_eq_true h0,Bool.and_true]
def laB2(es:List EraD):Bool:=match es[es.length-1]? with
 |some e=>(e.until_==253402300799)&&(e.of.toList==[119])
 |none=>false
def jb5(z:ZoneD):Bool:=jbs z.name&&(decide (1<=z.eras.length/\z.eras.length<=8)&&(z.eras.all eraP&&(upB z.eras&&laB2 z.eras)))
theorem jzt{z:ZoneD}(h:jbs z.name=false):jb5 z=false:=by unfold jb5;rw[h];rfl
theorem jq9{z:ZoneD}(h:¬(1<=z.eras.length/\z.eras.length<=8)):jb5 z=false:=by unfold jb5;rw[decide_eq_false h];simp
theorem jzs{z:ZoneD}(h:z.eras.all eraP=false):jb5 z=false:=by unfold jb5;rw[h];simp
theorem jzr{z:ZoneD}(h:upB z.eras=false):jb5 z=false:=by unfold jb5;rw[h];simp
theorem jzq{z:ZoneD}(h1:jbs z.name=true)(h2:1<=z.eras.length/\z.eras.length<=8)(h3:z.eras.all eraP=true)(h4:upB z.eras=true):jb5 z=laB2 z.eras:=by unfold jb5;rw[h1,decide_eq_true h2,h3,h4];simp
theorem jkb(z:ZoneD)(v:Value)(w:World)(hv:EraSl w v z.eras)(hm:z.ok):
  Calls Tryz.prog 74 #[.agg #[.string z.name,v]] w fun e w'=>e=.returned (.bool (jb5 z))/\Below w.heap.size w w':=by
 obtain⟨a,cap,rfl,hA⟩:=hv
 obtain⟨m1,m2,m3⟩:=hm
 have h1:=fun w=>jau z.name w m1
 have hB0:=fun o=>qal w o
 unfold maxLen at m2
 cases hn:jbs z.name
 ·rw[jzt hn]
  rw[hn]at h1
  generalize z.name=nm at *
  clear hn
  go_enter Tryz.func74,Tryz.ntmps74
  go_wp2_with (go_at_call 80;refine(h1 _).mono ?_;rintro e w' ⟨rfl,rfl⟩)
  go_ret
  exact⟨rfl,hB0 _⟩
 rw[hn]at h1
 by_cases hl0:z.eras.length<1
 ·rw[jq9 (by omega)]
  go_enter Tryz.func74,Tryz.ntmps74
  go_wp2_with (go_at_call 80;refine(h1 _).mono ?_;rintro e w' ⟨rfl,rfl⟩)
  go_ret
  exact⟨rfl,hB0 _⟩
 by_cases hl8:8<z.eras.length
 ·rw[jq9 (by omega)]
  go_enter Tryz.func74,Tryz.ntmps74
  go_wp2_with (go_at_call 80;refine(h1 _).mono ?_;rintro e w' ⟨rfl,rfl⟩)
  go_ret
  exact⟨rfl,hB0 _⟩
 have h2:=fun w (h:Zd w a 6 (z.eras.map EraD.cs))=>jqi z.eras a cap w h m3 (by omega)
 cases ha:z.eras.all eraP
 ·rw[jzs ha]
  rw[ha]at h2
  clear ha
  go_enter Tryz.func74,Tryz.ntmps74
  go_wp2_with fail
  refine(h1 _).mono ?_
  rintro e w1 ⟨rfl,rfl⟩
  go_wp2_with fail
  refine(h2 _ (hA.below (hB0 _))).mono ?_
  rintro e w1 ⟨rfl,hb1⟩
  go_wp2
  go_ret
  exact⟨rfl,(hB0 _).trans (hb1.mono (by simp))⟩
 rw[ha]at h2
 have HZ:Hid (upB z.eras=true->jb5 z=laB2 z.eras):=fun h=>jzq hn (by omega) ha h
 have HN:Hid (upB z.eras=false->jb5 z=false):=fun h=>jzr h
 clear hn ha
 generalize jb5 z=zb at *
 go_enter Tryz.func74,Tryz.ntmps74
 go_wp2_with fail
 refine(h1 _).mono ?_
 rintro e w1 ⟨rfl,rfl⟩
 go_wp2_with fail
 refine(h2 _ (hA.below (hB0 _))).mono ?_
 rintro e w1 ⟨rfl,hb1⟩
 obtain⟨hc,_⟩:=jal hb1
 have hB1:=(hB0 _).trans (hb1.mono (by simp))
 have x1:w1.cell? ⟨w.heap.size,1,none⟩=some (.slice a z.eras.length cap):=(hc _ _ (by simp)).trans (by simp[go_sem])
 have hA1:=hA.below hB1
 clear hc hb1 h1 h2
 obtain⟨n,hlen⟩:∃n,z.eras.length=n+1:=⟨z.eras.length-1,by omega⟩
 go_wp2
 go_loopw [28] (fun i wr=>∃k:Nat,k<=n/\i=.int .i64 k/\Hid (∀j,j<k->∀x y,z.eras[j]? =some x->z.eras[j+1]? =some y->x.until_<y.until_)/\Below w1.heap.size w1 wr) (fun i _=>n-(intOf i).toNat)
 case atStart=>exact⟨0,by omega,rfl,fun j hj=>by omega,Below.refl _ _⟩
 case round=>
  obtain⟨k,hk,rfl,hall,hB⟩:=hrel
  have y1:wr.cell? ⟨w.heap.size,1,none⟩=some (.slice a z.eras.length cap):=by rw[(jal hB).1 _ _ (qbl x1)];exact x1
  have hBB:=qtr hB1 hB
  by_cases hlt:k<n
  ·obtain⟨r,hr⟩:∃r,z.eras[k]? =some r:=⟨_,List.getElem?_eq_getElem (by omega)⟩
   obtain⟨r2,hr2⟩:∃r,z.eras[k+1]? =some r:=⟨_,List.getElem?_eq_getElem (by omega)⟩
   obtain⟨b,o,rfl,hc⟩:=(hA1.below hB).at (i:=k) (r:=r.cs) (by rw[List.getElem?_map,hr];rfl)
   obtain⟨b',o',he,hd⟩:=(hA1.below hB).at (i:=k+1) (r:=r2.cs) (by rw[List.getElem?_map,hr2];rfl)
   injection he with he
   injection he with e1 e2
   subst e1 e2
   have c4:=hc 4 _ rfl
   have d4:=hd 4 _ rfl
   clear hc hd
   by_cases hu:r.until_<r2.until_
   ·have HR:Hid (∀j,j<k+1->∀x y,z.eras[j]? =some x->z.eras[j+1]? =some y->x.until_<y.until_):=fun j hj x y hx hy=>by
     by_cases e:j=k
     ·subst e;rw[hr]at hx;rw[hr2]at hy;obtain rfl:=Option.some.inj hx;obtain rfl:=Option.some.inj hy;exact hu
     ·exact hall.out j (by omega) x y hx hy
    go_wp2_with fail
    go_quiet (fail)
    go_wp2
    go_roundw
    case rel=>exact⟨k+1,by omega,by go_num,HR,below_drewN hB _⟩
    case measure=>simp[intOf];omega
   ·have HR:Hid (zb=false):=HN.out (up_no hr hr2 hu)
    go_wp2_with fail
    go_quiet (fail)
    go_wp2
    go_ret
    exact⟨ret_bool HR.out.symm,below_drewN hBB _⟩
  ·have e:k=n:=by omega
   subst e
   obtain⟨r,hr⟩:∃r,z.eras[k]? =some r:=⟨_,List.getElem?_eq_getElem (by omega)⟩
   obtain⟨b,o,rfl,hc⟩:=(hA1.below hB).at (i:=k) (r:=r.cs) (by rw[List.getElem?_map,hr];rfl)
   have c4:=hc 4 _ rfl
   have c5:=hc 5 _ rfl
   clear hc
   have HR:Hid (zb=((r.until_==253402300799)&&(r.of.toList==[119]))):=by
    simp only[Hid]
    rw[HZ.out (j7n fun i x y hx hy=>hall.out i (by have:=(List.getElem?_eq_some_iff.mp hy).1;omega) x y hx hy)]
    unfold laB2
    rw[show z.eras.length-1=k by omega,hr]
   cases g:(r.until_==253402300799)
   ·rw[g]at HR
    go_wp2
    go_ret
    exact⟨ret_bool HR.out.symm,hBB⟩
   ·rw[g]at HR
    go_wp2
    go_ret
    exact⟨ret_bool (by rw[HR.out];simp),hBB⟩
end
section
open Go.RowKit
theorem jzk{α:Type}{l:List α}{p:α->Bool}{k:Nat}{x:α}(hk:l[k]? =some x)(h:p x=true):l.any p=true:=by
 rw[List.any_eq_true]
 exact⟨x,List.mem_of_getElem? hk,h⟩
theorem j4c{α:Type}{l:List α}{p:α->Bool}(h:∀j,j<l.length->∀x,l[j]? =some x->p x=false):l.any p=false:=by
 rw[List.any_eq_false]
 intro x hx
 obtain⟨j,hj⟩:=List.getElem?_of_mem hx
 simp[h j (List.getElem?_eq_some_iff.mp hj).1 x hj]
def hasB(rs:List RuleD)(s:ByteArray):Bool:=rs.any fun x=>x.name.toList==s.toList
end
section
open Go.RowKit
theorem joj(l:List ZoneD)(a:Option Addr)(cap:Nat)(w:World)(hA:Zy w a l)(hok:∀r∈l,r.ok)(hl:l.length<=1048576):
  Calls Tryz.prog 73 #[.slice a l.length cap,.func (.func 74) #[] #[]] w fun e w'=>e=.returned (.bool (l.all jb5))/\Below w.heap.size w w':=by
 go_enter Tryz.func73,Tryz.ntmps73
 go_wp2
 go_loopw [9] (fun i wr=>∃k:Nat,k<=l.length/\i=.int .i64 k/\Hid (∀j,j<k->∀x,l[j]? =some x->jb5 x=true)/\Below w.heap.size w wr) (fun i _=>l.length-(intOf i).toNat)
 case atStart=>exact⟨0,by omega,rfl,fun j hj=>by omega,Below.refl _ _⟩
 case round=>
  obtain⟨k,hk,rfl,hall,hB⟩:=hrel
  by_cases hlt:k<l.length
  ·obtain⟨r,hr⟩:=qgg hlt
   obtain⟨b,o,rfl,c0,v,c1,hv⟩:=(hA.below hB).at hr
   have ok:=hok r (List.mem_of_getElem? hr)
   have hS:=fun o=>jkb r v (wr.alloc o) (hv.below (qal _ o)) ok
   obtain⟨ae,ce,rfl,_⟩:=hv
   generalize r.eras.length=en at *
   cases hb:jb5 r
   ·have HR:Hid (l.all jb5=false):=jj6 hr hb
    rw[hb]at hS
    clear hb
    go_wp2_with fail
    refine(hS _).mono ?_
    rintro e w2 ⟨rfl,hb2⟩
    go_wp2
    go_ret
    exact⟨ret_bool HR.out.symm,(hB.alloc hB.size _).trans (hb2.mono (by simp;have:=hB.size;omega))⟩
   ·have HR:Hid (∀j,j<k+1->∀x,l[j]? =some x->jb5 x=true):=fun j hj x hx=>by
     by_cases e:j=k
     ·subst e;rw[hr]at hx;obtain rfl:=Option.some.inj hx;exact hb
     ·exact hall.out j (by omega) x hx
    rw[hb]at hS
    clear hb
    go_wp2_with fail
    refine(hS _).mono ?_
    rintro e w2 ⟨rfl,hb2⟩
    go_wp2
    go_roundw
    case rel=>exact⟨k+1,by omega,by go_num,HR,(hB.alloc hB.size _).trans (hb2.mono (by simp;have:=hB.size;omega))⟩
    case measure=>simp[intOf];omega
  ·have e:k=l.length:=by omega
   subst e
   have HR:Hid (l.all jb5=true):=jfj hall.out
   go_wp2
   go_ret
   exact⟨ret_bool HR.out.symm,hB⟩
end
section
open Go.RowKit
theorem jt1(r:RuleD)(p:Nat)(s:ByteArray)(w:World)(hp:w.cell? ⟨p,1,none⟩=some (.string s)):
  Calls Tryz.prog 120 #[r.v,.pointer (some ⟨p,0,none⟩)] w fun e w'=>e=.returned (.bool (r.name.toList==s.toList))/\Below w.heap.size w w':=by
 have hlt:=qbl hp
 have hne:p≠w.heap.size:=by simp at hlt;omega
 obtain⟨name,lo,hi,month,on,at_,of,save,letter⟩:=r
 simp only[RuleD.v]at *
 go_enter Tryz.func120,Tryz.ntmps120
 go_wp2
 go_ret
 exact⟨rfl,qal _ _⟩
theorem jkn(l:List RuleD)(a:Option Addr)(cap p:Nat)(s:ByteArray)(w:World)(hA:Zd w a 9 (l.map RuleD.cs))(hl:l.length<=1048576)(hp:w.cell? ⟨p,1,none⟩=some (.string s)):
  Calls Tryz.prog 160 #[.slice a l.length cap,.func (.func 120) #[] #[.pointer (some ⟨p,0,none⟩)]] w fun e w'=>(∃n:Int,e=.returned (.int .i64 n)/\decide (0<=n)=hasB l s)/\Below w.heap.size w w':=by
 unfold hasB
 go_enter Tryz.func160,Tryz.ntmps160
 go_wp2
 go_loopw [8] (fun i wr=>∃k:Nat,k<=l.length/\i=.int .i64 k/\Hid (∀j,j<k->∀x,l[j]? =some x->(x.name.toList==s.toList)=false)/\Below w.heap.size w wr) (fun i _=>l.length-(intOf i).toNat)
 case atStart=>exact⟨0,by omega,rfl,fun j hj=>by omega,Below.refl _ _⟩
 case round=>
  obtain⟨k,hk,rfl,hall,hB⟩:=hrel
  by_cases hlt:k<l.length
  ·obtain⟨r,hr⟩:=qgg hlt
   obtain⟨b,o,rfl,hc⟩:=(hA.below hB).at (i:=k) (r:=r.cs) (by rw[List.getElem?_map,hr];rfl)
   have c0:wr.cell? ⟨b,o+k*9,none⟩=some (.string r.name):=hc 0 _ rfl
   have c1:=hc 1 _ rfl
   have c2:=hc 2 _ rfl
   have c3:=hc 3 _ rfl
   have c4:=hc 4 _ rfl
   have c5:=hc 5 _ rfl
   have c6:=hc 6 _ rfl
   have c7:=hc 7 _ rfl
   have c8:=hc 8 _ rfl
   clear hc
   have hS:=jt1 r p s wr (by rw[(jal hB).1 _ _ (qbl hp)];exact hp)
   unfold RuleD.v at hS
   cases hb:(r.name.toList==s.toList)
   ·have HR:Hid (∀j,j<k+1->∀x,l[j]? =some x->(x.name.toList==s.toList)=false):=fun j hj x hx=>by
     by_cases e:j=k
     ·subst e;rw[hr]at hx;obtain rfl:=Option.some.inj hx;exact hb
     ·exact hall.out j (by omega) x hx
    rw[hb]at hS
    clear hb
    go_wp2_with fail
    refine hS.mono ?_
    rintro e w2 ⟨rfl,hb2⟩
    go_wp2
    go_roundw
    case rel=>exact⟨k+1,by omega,by go_num,HR,(qtr hB hb2)⟩
    case measure=>simp[intOf];omega
   ·have HR:Hid ((l.any fun x=>x.name.toList==s.toList)=true):=jzk hr hb
    rw[hb]at hS
    clear hb
    go_wp2_with fail
    refine hS.mono ?_
    rintro e w2 ⟨rfl,hb2⟩
    go_wp2
    go_ret
    exact⟨⟨_,rfl,by rw[HR.out];simp⟩,(qtr hB hb2)⟩
  ·have e:k=l.length:=by omega
   subst e
   have HR:Hid ((l.any fun x=>x.name.toList==s.toList)=false):=j4c hall.out
   go_wp2
   go_ret
   exact⟨⟨_,rfl,by rw[HR.out];rfl⟩,hB⟩
theorem jgz(l:List RuleD)(a:Option Addr)(cap p:Nat)(s:ByteArray)(w:World)(hA:Zd w a 9 (l.map RuleD.cs))(hl:l.length<=1048576)(hp:w.cell? ⟨p,1,none⟩=some (.string s)):
  Calls Tryz.prog 121 #[.slice a l.length cap,.func (.func 120) #[] #[.pointer (some ⟨p,0,none⟩)]] w fun e w'=>e=.returned (.bool (hasB l s))/\Below w.heap.size w w':=by
 have hI:=jkn l a cap p s w hA hl hp
 generalize hasB l s=q at *
 go_enter Tryz.func121,Tryz.ntmps121
 go_wp2_with fail
 refine hI.mono ?_
 rintro e w1 ⟨⟨n,rfl,hn⟩,hb⟩
 go_wp2
 go_ret
 exact⟨ret_bool (by simp),hb⟩
end
section
open Go.RowKit
def hasZ(l:List ZoneD)(s:ByteArray):Bool:=l.any fun x=>x.name.toList==s.toList
theorem jp8(r:ZoneD)(v:Value)(p:Nat)(s:ByteArray)(w:World)(hp:w.cell? ⟨p,0,none⟩=some (.string s)):
  Calls Tryz.prog 122 #[.agg #[.string r.name,v],.pointer (some ⟨p,0,none⟩)] w fun e w'=>e=.returned (.bool (r.name.toList==s.toList))/\Below w.heap.size w w':=by
 have hlt:=qbl hp
 have hne:p≠w.heap.size:=by simp at hlt;omega
 go_enter Tryz.func122,Tryz.ntmps122
 go_wp2
 go_ret
 exact⟨rfl,qal _ _⟩
theorem jkm(l:List ZoneD)(a:Option Addr)(cap p:Nat)(s:ByteArray)(w:World)(hA:Zy w a l)(hl:l.length<=1048576)(hp:w.cell? ⟨p,0,none⟩=some (.string s)):
  Calls Tryz.prog 161 #[.slice a l.length cap,.func (.func 122) #[] #[.pointer (some ⟨p,0,none⟩)]] w fun e w'=>(∃n:Int,e=.returned (.int .i64 n)/\decide (0<=n)=hasZ l s)/\Below w.heap.size w w':=by
 unfold hasZ
 go_enter Tryz.func161,Tryz.ntmps161
 go_wp2
 go_loopw [8] (fun i wr=>∃k:Nat,k<=l.length/\i=.int .i64 k/\Hid (∀j,j<k->∀x,l[j]? =some x->(x.name.toList==s.toList)=false)/\Below w.heap.size w wr) (fun i _=>l.length-(intOf i).toNat)
 case atStart=>exact⟨0,by omega,rfl,fun j hj=>by omega,Below.refl _ _⟩
 case round=>
  obtain⟨k,hk,rfl,hall,hB⟩:=hrel
  by_cases hlt:k<l.length
  ·obtain⟨r,hr⟩:=qgg hlt
   obtain⟨b,o,rfl,c0,v,c1,hv⟩:=(hA.below hB).at hr
   have hS:=jp8 r v p s wr (by rw[(jal hB).1 _ _ (qbl hp)];exact hp)
   obtain⟨ae,ce,rfl,_⟩:=hv
   generalize r.eras.length=en at *
   cases hb:(r.name.toList==s.toList)
   ·have HR:Hid (∀j,j<k+1->∀x,l[j]? =some x->(x.name.toList==s.toList)=false):=fun j hj x hx=>by
     by_cases e:j=k
     ·subst e;rw[hr]at hx;obtain rfl:=Option.some.inj hx;exact hb
     ·exact hall.out j (by omega) x hx
    rw[hb]at hS
    clear hb
    go_wp2_with fail
    refine hS.mono ?_
    rintro e w2 ⟨rfl,hb2⟩
    go_wp2
    go_roundw
    case rel=>exact⟨k+1,by omega,by go_num,HR,(qtr hB hb2)⟩
    case measure=>simp[intOf];omega
   ·have HR:Hid ((l.any fun x=>x.name.toList==s.toList)=true):=jzk hr hb
    rw[hb]at hS
    clear hb
    go_wp2_with fail
    refine hS.mono ?_
    rintro e w2 ⟨rfl,hb2⟩
    go_wp2
    go_ret
    exact⟨⟨_,rfl,by rw[HR.out];simp⟩,(qtr hB hb2)⟩
  ·have e:k=l.length:=by omega
   subst e
   have HR:Hid ((l.any fun x=>x.name.toList==s.toList)=false):=j4c hall.out
   go_wp2
   go_ret
   exact⟨⟨_,rfl,by rw[HR.out];rfl⟩,hB⟩
theorem jgy(l:List ZoneD)(a:Option Addr)(cap p:Nat)(s:ByteArray)(w:World)(hA:Zy w a l)(hl:l.length<=1048576)(hp:w.cell? ⟨p,0,none⟩=some (.string s)):
  Calls Tryz.prog 123 #[.slice a l.length cap,.func (.func 122) #[] #[.pointer (some ⟨p,0,none⟩)]] w fun e w'=>e=.returned (.bool (hasZ l s))/\Below w.heap.size w w':=by
 have hI:=jkm l a cap p s w hA hl hp
 generalize hasZ l s=q at *
 go_enter Tryz.func123,Tryz.ntmps123
 go_wp2_with fail
 refine hI.mono ?_
 rintro e w1 ⟨⟨n,rfl,hn⟩,hb⟩
 go_wp2
 go_ret
 exact⟨ret_bool (by simp),hb⟩
end
section
open Go.RowKit
theorem ji1(r:RelD)(v:Value)(w:World)(hv:Zi w v r)(hz:r.zones.length<=1048576)(hl:r.links.length<=1048576):
  Calls Tryz.prog 79 #[v] w fun e w'=>e=.returned (.bool (r.links.all fun x=>hasZ r.zones x.to_))/\Below w.heap.size w w':=by
 obtain⟨a,b,c,ca,cb,cc,rfl,_,hZ,hA⟩:=hv.form
 clear hv
 generalize r.rules.length=rn at *
 generalize r.links=l at *
 generalize r.zones=zs at *
 have hB0:=qal w (.cells #[.slice a rn ca,.slice b zs.length cb,.slice c l.length cc] 56)
 have hA1:=hA.below hB0
 have hZ1:=hZ.below hB0
 have hown:(w.alloc (.cells #[.slice a rn ca,.slice b zs.length cb,.slice c l.length cc] 56)).cell? ⟨w.heap.size,1,none⟩=some (.slice b zs.length cb):=by simp
 go_enter Tryz.func79,Tryz.ntmps79
 go_wp2
 generalize hW:(w.alloc (.cells #[.slice a rn ca,.slice b zs.length cb,.slice c l.length cc] 56))=W at *
 go_loopw [9] (fun i wr=>∃k:Nat,k<=l.length/\i=.int .i64 k/\Hid (∀j,j<k->∀x,l[j]? =some x->hasZ zs x.to_=true)/\Below W.heap.size W wr) (fun i _=>l.length-(intOf i).toNat)
 case atStart=>exact⟨0,by omega,rfl,fun j hj=>by omega,by subst hW;exact Below.refl _ _⟩
 case round=>
  obtain⟨k,hk,rfl,hall,hB⟩:=hrel
  have hT:Below w.heap.size w wr:=qtr hB0 hB
  have ho:wr.cell? ⟨w.heap.size,1,none⟩=some (.slice b zs.length cb):=by rw[(jal hB).1 _ _ (qbl hown)];exact hown
  by_cases hlt:k<l.length
  ·obtain⟨x,hx⟩:=qgg hlt
   obtain⟨b',o,rfl,hc⟩:=(hA1.below hB).at (i:=k) (r:=x.cs) (by rw[List.getElem?_map,hx];rfl)
   have c0:wr.cell? ⟨b',o+k*2,none⟩=some (.string x.to_):=hc 0 _ rfl
   have c1:=hc 1 _ rfl
   clear hc
   have hl0:=qbl ho
   have hB2:Below W.heap.size W (wr.alloc (.cells #[.string x.to_,.string x.name] 140)):=hB.alloc hB.size _
   have hS:=jgy zs b cb wr.heap.size x.to_ (wr.alloc (.cells #[.string x.to_,.string x.name] 140)) (hZ1.below hB2) hz (by simp)
   cases hb:hasZ zs x.to_
   ·have HR:Hid ((l.all fun x=>hasZ zs x.to_)=false):=jj6 hx hb
    rw[hb]at hS
    clear hb
    go_wp2_with fail
    refine hS.mono ?_
    rintro e w2 ⟨rfl,hb2⟩
    go_wp2
    go_ret
    exact⟨ret_bool HR.out.symm,hB0.trans ((qtr hB2 hb2).mono hB0.size)⟩
   ·have HR:Hid (∀j,j<k+1->∀x,l[j]? =some x->hasZ zs x.to_=true):=fun j hj y hy=>by
     by_cases e:j=k
     ·subst e;rw[hx]at hy;obtain rfl:=Option.some.inj hy;exact hb
     ·exact hall.out j (by omega) y hy
    rw[hb]at hS
    clear hb
    go_wp2_with fail
    refine hS.mono ?_
    rintro e w2 ⟨rfl,hb2⟩
    go_wp2
    go_roundw
    case rel=>exact⟨k+1,by omega,by go_num,HR,(qtr hB2 hb2)⟩
    case measure=>simp[intOf];omega
  ·have e:k=l.length:=by omega
   subst e
   have HR:Hid ((l.all fun x=>hasZ zs x.to_)=true):=jfj hall.out
   go_wp2
   go_ret
   exact⟨ret_bool HR.out.symm,hT⟩
end
section
open Go.RowKit
def jc1(rs:List RuleD)(e:EraD):Bool:=e.rules.toList.isEmpty || hasB rs e.rules
theorem ji8(r:RelD)(v:Value)(w:World)(hv:Zi w v r)(hr:r.rules.length<=1048576)(hz:r.zones.length<=1048576)(hok:∀x∈r.zones,x.ok):
  Calls Tryz.prog 78 #[v] w fun e w'=>e=.returned (.bool (r.zones.all fun z=>z.eras.all (jc1 r.rules)))/\Below w.heap.size w w':=by
 obtain⟨a,b,c,ca,cb,cc,rfl,hR,hA,_⟩:=hv.form
 clear hv
 generalize r.rules=rs at *
 generalize r.links.length=ln at *
 generalize r.zones=l at *
 have hB0:=qal w (.cells #[.slice a rs.length ca,.slice b l.length cb,.slice c ln cc] 56)
 have hA1:=hA.below hB0
 have hR1:=hR.below hB0
 have hown:(w.alloc (.cells #[.slice a rs.length ca,.slice b l.length cb,.slice c ln cc] 56)).cell? ⟨w.heap.size,0,none⟩=some (.slice a rs.length ca):=by simp
 go_enter Tryz.func78,Tryz.ntmps78
 go_wp2
 generalize hW:(w.alloc (.cells #[.slice a rs.length ca,.slice b l.length cb,.slice c ln cc] 56))=W at *
 go_loopw [11] (fun i wr=>∃k:Nat,k<=l.length/\i=.int .i64 k/\Hid (∀j,j<k->∀x,l[j]? =some x->x.eras.all (jc1 rs)=true)/\Below W.heap.size W wr) (fun i _=>l.length-(intOf i).toNat)
 case atStart=>exact⟨0,by omega,rfl,fun j hj=>by omega,by subst hW;exact Below.refl _ _⟩
 case round=>
  obtain⟨k,hk,rfl,hall,hB⟩:=hrel
  have hT:Below w.heap.size w wr:=qtr hB0 hB
  by_cases hlt:k<l.length
  ·obtain⟨x,hx⟩:=qgg hlt
   obtain⟨b',o,rfl,c0,v,c1,hv⟩:=(hA1.below hB).at hx
   have ok:=(hok x (List.mem_of_getElem? hx)).2.1
   obtain⟨ae,ce,rfl,hE⟩:=hv
   unfold maxLen at ok
   obtain⟨nm,es⟩:=x
   simp only at *
   have hB2:Below W.heap.size W (wr.alloc (.cells #[.string nm,.slice ae es.length ce] 136)):=hB.alloc hB.size _
   have hE2:Zd (wr.alloc (.cells #[.string nm,.slice ae es.length ce] 136)) ae 6 (es.map EraD.cs):=hE.below (qal _ _)
   go_wp2
   generalize hV:(wr.alloc (.cells #[.string nm,.slice ae es.length ce] 136))=V at *
   obtain⟨wo,rfl⟩:∃wo:World,wo=wr:=⟨_,rfl⟩
   go_loopw [18] (fun i wr=>∃m:Nat,m<=es.length/\i=.int .i64 m/\Hid (∀j,j<m->∀x,es[j]? =some x->jc1 rs x=true)/\Below V.heap.size V wr) (fun i _=>es.length-(intOf i).toNat)
   case atStart=>exact⟨0,by omega,rfl,fun j hj=>by omega,by subst hV;exact Below.refl _ _⟩
   case round=>
    obtain⟨m,hm,rfl,hall2,hC⟩:=hrel
    have hBC:Below W.heap.size W wr:=qtr hB2 hC
    have ho:wr.cell? ⟨w.heap.size,0,none⟩=some (.slice a rs.length ca):=by rw[(jal hBC).1 _ _ (qbl hown)];exact hown
    by_cases hlt2:m<es.length
    ·obtain⟨y,hy⟩:=qgg hlt2
     obtain⟨b2,o2,rfl,hc⟩:=(hE2.below hC).at (i:=m) (r:=y.cs) (by rw[List.getElem?_map,hy];rfl)
     have d0:wr.cell? ⟨b2,o2+m*6,none⟩=some (.int .i64 y.offset):=hc 0 _ rfl
     have d1:=hc 1 _ rfl
     have d2:=hc 2 _ rfl
     have d3:=hc 3 _ rfl
     have d4:=hc 4 _ rfl
     have d5:=hc 5 _ rfl
     clear hc
     have hl0:=qbl ho
     have hB3:Below W.heap.size W (wr.alloc (.cells #[.int .i64 y.offset,.string y.rules,.int .i64 y.save,.string y.format,.int .i64 y.until_,.string y.of] 148)):=hBC.alloc hBC.size _
     have hC3:Below V.heap.size V (wr.alloc (.cells #[.int .i64 y.offset,.string y.rules,.int .i64 y.save,.string y.format,.int .i64 y.until_,.string y.of] 148)):=hC.alloc hC.size _
     have hS:=jgz rs a ca wr.heap.size y.rules (wr.alloc (.cells #[.int .i64 y.offset,.string y.rules,.int .i64 y.save,.string y.format,.int .i64 y.until_,.string y.of] 148)) (hR1.below hB3) hr (by simp)
     have hyes:jc1 rs y=true->Hid (∀j,j<m+1->∀x,es[j]? =some x->jc1 rs x=true):=fun hb j hj z hz=>by
      by_cases e:j=m
      ·subst e;rw[hy]at hz;obtain rfl:=Option.some.inj hz;exact hb
      ·exact hall2.out j (by omega) z hz
     have hno:jc1 rs y=false->Hid ((l.all fun z=>z.eras.all (jc1 rs))=false):=fun hb=>jj6 hx (jj6 hy hb)
     unfold jc1 at hyes hno
     cases he:y.rules.toList.isEmpty
     ·cases hb:hasB rs y.rules
      ·have HR:=hno (by rw[he,hb];rfl)
       rw[hb]at hS
       clear hb hyes hno
       go_wp2_with fail
       refine hS.mono ?_
       rintro e w2 ⟨rfl,hb2⟩
       go_wp2
       go_ret
       exact⟨ret_bool HR.out.symm,hB0.trans ((qtr hB3 hb2).mono hB0.size)⟩
      ·have HR:=hyes (by rw[he,hb];rfl)
       rw[hb]at hS
       clear hb hyes hno
       go_wp2_with fail
       refine hS.mono ?_
       rintro e w2 ⟨rfl,hb2⟩
       go_wp2
       go_roundw
       case rel=>exact⟨m+1,by omega,by go_num,HR,(qtr hC3 hb2)⟩
       case measure=>simp[intOf];omega
     ·have HR:=hyes (by rw[he];rfl)
      clear hS hyes hno
      go_wp2
      go_roundw
      case rel=>exact⟨m+1,by omega,by go_num,HR,hC3⟩
      case measure=>simp[intOf];omega
    ·have e:m=es.length:=by omega
     subst e
     have HR:Hid (∀j,j<k+1->∀x,l[j]? =some x->x.eras.all (jc1 rs)=true):=fun j hj z hz=>by
      by_cases e:j=k
      ·subst e;rw[hx]at hz;obtain rfl:=Option.some.inj hz;exact jfj hall2.out
      ·exact hall.out j (by omega) z hz
     go_wp2
     go_roundw
     case rel=>exact⟨k+1,by omega,by go_num,HR,hBC⟩
     case measure=>simp[intOf];omega
  ·have e:k=l.length:=by omega
   subst e
   have HR:Hid ((l.all fun z=>z.eras.all (jc1 rs))=true):=jfj hall.out
   go_wp2
   go_ret
   exact⟨ret_bool HR.out.symm,hT⟩
end
end Go.Proofs.YtofdpfpdocpbpaaGreatDoor
