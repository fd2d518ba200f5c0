/- Packed. -/
import Derived.Test.YtofdpfpdocpbpaaGreatDoorBasePd
import Derived.Test.YtofdpfpdocpbpaaGreatDoorShelfK
import Derived.Lib.AppendIntMem
import Derived.Lib.ItoaLen
import Derived.Lib.QuietBelow
import Derived.Test.YtofdpfpdocpbpaaGreatDoorOffPd
import Derived.Deep.RegionHeld3
import Derived.BigRegion
import Derived.Deep.Cut
import Derived.Deep.CutRange
set_option maxHeartbeats 20000000
set_option linter.unusedSimpArgs false
namespace Go.Proofs.YtofdpfpdocpbpaaGreatDoor
section
open Go.RowKit
theorem ret_str{a b:ByteArray}(h:a=b):Ending.returned (.string a)=.returned (.string b):=by rw[h]
def j3v:Value->Nat
 |.string s=>s.size
 |_=>0
def padL(u k:Nat):List UInt8:=List.replicate (k-(Lib.decDigits u).length) 48++Lib.decDigits u
theorem j6x{u:Nat}(h:u<10000):(Lib.decDigits u).length<=4:=by
 by_cases h1:u<10
 ·rw[Lib.decDigits_one h1];simp
 rw[Lib.decDigits,dif_neg h1]
 by_cases h2:u / 10<10
 ·rw[Lib.decDigits_one h2];simp
 rw[Lib.decDigits,dif_neg h2]
 by_cases h3:u / 10 / 10<10
 ·rw[Lib.decDigits_one h3];simp
 rw[Lib.decDigits,dif_neg h3,Lib.decDigits_one (by omega)];simp
def Pow (w : World) : Prop := Lib.TabIs Tryz.prog w "internal/strconv.uint64pow10" .u64 Lib.pow10Tab
theorem gPow : Tryz.prog.globalNamed "internal/strconv.uint64pow10" = some 3 := by kernel_rfl
theorem Pow.of_below{w w':World}(h:Pow w)(hb:Below w.heap.size w w'):Pow w':=
 var?_below hb gPow (qbl (Lib.TabIs.cell h gPow 0 (by decide))) h
theorem Pow.alloc{w:World}(h:Pow w)(o:Obj):Pow (w.alloc o):=h.of_below (qal _ o)
theorem j82(n:Nat)(w:World)(hn:n<1000000)(hP:Pow w):
  Calls Tryz.prog 138 #[.int .i64 n,.int .i64 10] w fun e w'=>e=.returned (.string (S (Lib.decDigits n)))/\Below w.heap.size w w':=by
 refine(Tryz.strconv_FormatInt_10 (n:Int) (by omega) (by omega) w hP).mono ?_
 rintro e w' ⟨rfl,k,os,rfl⟩
 exact⟨by rw[Lib.itoa_nonneg],Lib.below_grow _ _ (Nat.le_refl _) _ _⟩
theorem jp7(n k:Nat)(w:World)(hn:n<1000000)(hk:k<=4)(hP:Pow w):
  Calls Tryz.prog 230 #[.int .i64 n,.int .i64 k] w fun e w'=>e=.returned (.string (S (padL n k)))/\Below w.heap.size w w':=by
 have hF:=j82 n w hn hP
 go_enter Tryz.func230,Tryz.ntmps230
 go_wp2_with fail
 refine hF.mono ?_
 rintro e w1 ⟨rfl,hb⟩
 clear hF hP
 go_wp2
 go_loop [5] (fun t=>∃j:Nat,j<=k-(Lib.decDigits n).length/\t=.string (S (List.replicate j 48++Lib.decDigits n))) (fun t=>k-j3v t)
 case atStart=>exact⟨0,by omega,rfl⟩
 case round=>
  obtain⟨j,hj,rfl⟩:=hrel
  by_cases hlt:j+(Lib.decDigits n).length<k
  ·go_wp2
   go_round
   case rel=>exact⟨j+1,by omega,by rw[j9j,List.replicate_succ];rfl⟩
   case measure=>simp only[j3v,ByteArray.size_append,S_size,List.length_append,List.length_replicate];simp;omega
  ·go_wp2
   go_ret
   exact⟨ret_str (by unfold padL;congr 3;omega),hb⟩
theorem jds{n k:Int}(u kk:Nat)(w:World)(hu:n=u)(hkk:k=kk)(hn:u<1000000)(hk:kk<=4)(hP:Pow w):
  Calls Tryz.prog 230 #[.int .i64 n,.int .i64 k] w fun e w'=>e=.returned (.string (S (padL u kk)))/\Below w.heap.size w w':=by
 subst hu hkk;exact jp7 u kk w hn hk hP
end
section
open Go.RowKit Go.Sort
def jur(y m d:Nat):List UInt8:=padL y 4++45::padL m 2++45::padL d 2
def jlm(s:Nat):List UInt8:=padL (s / 3600) 2++58::padL (s / 60%60) 2++58::padL (s%60) 2
def jvv(n:Int):List UInt8:=jur (yOf (n / 86400)).toNat (mOf (n / 86400)).toNat (dOf (n / 86400)).toNat++32::jlm (n%86400).toNat
def jcs(n:Int):List UInt8:=if isB n (-62135596800) 253402300799=true then jvv n else []
theorem pad4{u:Nat}(h:u<10000):(padL u 4).length=4:=by
 have:=j6x h
 unfold padL
 simp;omega
theorem j6y{u:Nat}(h:u<100):(Lib.decDigits u).length<=2:=by
 by_cases h1:u<10
 ·rw[Lib.decDigits_one h1];simp
 ·rw[Lib.decDigits_two h1 h];simp
theorem pad2{u:Nat}(h:u<100):(padL u 2).length=2:=by
 have:=j6y h
 unfold padL
 simp;omega
theorem jmb(y m d:Nat)(w:World)(hy:y<10000)(hm:m<100)(hd:d<100)(hP:Pow w):
  Calls Tryz.prog 184 #[.agg #[.int .i64 y,.int .i64 m,.int .i64 d]] w fun e w'=>e=.returned (.string (S (jur y m d)))/\Below w.heap.size w w':=by
 have l1:=pad4 hy
 have l2:=pad2 hm
 have l3:=pad2 hd
 have hP0:∀o,Pow (w.alloc o):=fun o=>hP.alloc o
 have c1:∀(W:World),Pow W->∀dd os,Calls Tryz.prog 230 #[.int .i64 y,.int .i64 4] (grow (redrawn W dd) os) fun e w''=>e=.returned (.string (S (padL y 4)))/\∃p:Regrown,w''=grow (redrawn W p.d) p.os:=
  fun W h dd os=>Calls.regrown_of (jds y 4 _ rfl rfl (by omega) (by omega) (h.of_below (below_regrown W dd os)))
 have c2:∀(W:World),Pow W->∀dd os,Calls Tryz.prog 230 #[.int .i64 m,.int .i64 2] (grow (redrawn W dd) os) fun e w''=>e=.returned (.string (S (padL m 2)))/\∃p:Regrown,w''=grow (redrawn W p.d) p.os:=
  fun W h dd os=>Calls.regrown_of (jds m 2 _ rfl rfl (by omega) (by omega) (h.of_below (below_regrown W dd os)))
 have c3:∀(W:World),Pow W->∀dd os,Calls Tryz.prog 230 #[.int .i64 d,.int .i64 2] (grow (redrawn W dd) os) fun e w''=>e=.returned (.string (S (padL d 2)))/\∃p:Regrown,w''=grow (redrawn W p.d) p.os:=
  fun W h dd os=>Calls.regrown_of (jds d 2 _ rfl rfl (by omega) (by omega) (h.of_below (below_regrown W dd os)))
 clear hP
 go_enter Tryz.func184,Tryz.ntmps184
 go_wp2
 have k0:=cell_regrown (w:=w.alloc (.cells #[.int .i64 y,.int .i64 m,.int .i64 d] 274)) (a:=⟨w.heap.size,0,none⟩) (v:=.int .i64 y) (by simp)
 have k1:=cell_regrown (w:=w.alloc (.cells #[.int .i64 y,.int .i64 m,.int .i64 d] 274)) (a:=⟨w.heap.size,1,none⟩) (v:=.int .i64 m) (by simp)
 have k2:=cell_regrown (w:=w.alloc (.cells #[.int .i64 y,.int .i64 m,.int .i64 d] 274)) (a:=⟨w.heap.size,2,none⟩) (v:=.int .i64 d) (by simp)
 refine wp_region_quiet_below (by kernel_rfl) (by kernel_rfl) ?_
 repeat (quiet_step (first|(go_at_call_of 230 y;exact c1 _ (hP0 _) _ _)|(go_at_call_of 230 m;exact c2 _ (hP0 _) _ _)|(go_at_call_of 230 d;exact c3 _ (hP0 _) _ _)))
 refine wpQuiet_nil ?_
 intro _ hw'
 obtain⟨⟨dq,osq⟩,hw''⟩:=hw'
 subst hw''
 go_wp2
 go_ret
 exact⟨ret_str (by unfold jur;simp only[jid];simp),(qal _ _).trans ((below_regrown _ dq osq).mono (by simp))⟩
theorem jkr(s:Nat)(w:World)(hs:s<86400)(hP:Pow w):
  Calls Tryz.prog 186 #[.int .i64 s] w fun e w'=>e=.returned (.string (S (jlm s)))/\Below w.heap.size w w':=by
 have l1:=pad2 (u:=s / 3600) (by omega)
 have l2:=pad2 (u:=s / 60%60) (by omega)
 have l3:=pad2 (u:=s%60) (by omega)
 go_enter Tryz.func186,Tryz.ntmps186
 go_wp2_with fail
 refine(jds (s / 3600) 2 _ (by omega) rfl (by omega) (by omega) hP).mono ?_
 rintro e w1 ⟨rfl,hb1⟩
 go_wp2_with fail
 refine(jds (s / 60%60) 2 _ (by omega) rfl (by omega) (by omega) (hP.of_below hb1)).mono ?_
 rintro e w2 ⟨rfl,hb2⟩
 have hB2:=qtr hb1 hb2
 go_wp2_with fail
 refine(jds (s%60) 2 _ (by omega) rfl (by omega) (by omega) (hP.of_below hB2)).mono ?_
 rintro e w3 ⟨rfl,hb3⟩
 have hB3:=qtr hB2 hb3
 go_wp2
 go_ret
 exact⟨ret_str (by unfold jlm;simp only[jid];simp),hB3⟩
theorem jy2{y m d:Nat}(hy:y<10000)(hm:m<100)(hd:d<100):(jur y m d).length=10:=by
 unfold jur;simp[pad4 hy,pad2 hm,pad2 hd]
theorem juw{s:Nat}(hs:s<86400):(jlm s).length=8:=by
 unfold jlm;simp[pad2 (u:=s / 3600) (by omega),pad2 (u:=s / 60%60) (by omega),pad2 (u:=s%60) (by omega)]
theorem j20{n:Int}(h1: -719162<=n)(h2:n<=2932896):∃y m d:Nat,yOf n=y/\mOf n=m/\dOf n=d/\1<=y/\y<10000/\1<=m/\m<=12/\1<=d/\d<=31:=by
 have ⟨a,b,c,d,e,f⟩:=jvg (j7m h1 h2)
 have:=Cal.dim_bd (yOf n) (mOf n)
 exact⟨(yOf n).toNat,(mOf n).toNat,(dOf n).toNat,by omega,by omega,by omega,by omega,by omega,by omega,by omega,by omega,by omega⟩
theorem jhy(n:Int)(w:World)(h1: -62135596800<=n)(h2:n<=253402300799):
  Calls Tryz.prog 183 #[.int .i64 n] w fun e w'=>e=.returned (.tuple #[.int .i64 (n / 86400),.int .i64 (n%86400)])/\w'=w:=by
 have e1:Hid (-719162+(n+62135596800) / 86400=n / 86400):=by simp only[Hid];omega
 have e2:Hid ((n+62135596800)%86400=n%86400):=by simp only[Hid];omega
 go_enter Tryz.func183,Tryz.ntmps183
 go_wp2
 go_ret2
 exact⟨by rw[<- e1.out, <- e2.out];rfl,rfl⟩
theorem jhe(n:Int)(w:World):
  Calls Tryz.prog 81 #[.int .i64 n] w fun e w'=>e=.returned (.bool (isB n (-62135596800) 253402300799))/\w'=w:=by
 by_cases h: -62135596800<=n
 ·go_enter Tryz.func81,Tryz.ntmps81
  go_wp2
  go_ret
  exact⟨ret_bool (by unfold isB;simp[h]),rfl⟩
 ·go_enter Tryz.func81,Tryz.ntmps81
  go_wp2
  go_ret
  exact⟨ret_bool (jhl (by omega)).symm,rfl⟩
theorem jh1(n:Int)(w:World)(h1: -62135596800<=n)(h2:n<=253402300799)(hT:Tab w)(hP:Pow w):
  Calls Tryz.prog 139 #[.int .i64 n] w fun e w'=>e=.returned (.string (S (jvv n)))/\Below w.heap.size w w':=by
 have hD:=fun w h=>jku (n / 86400) w h (by omega) (by omega)
 obtain⟨y,m,d,ey,em,ed,y1,y2,m1,m2,d1,d2⟩:=j20 (n:=n / 86400) (by omega) (by omega)
 have HT:Hid (jvv n=jur y m d++32::jlm (n%86400).toNat):=by unfold jvv;rw[ey,em,ed];simp[Hid]
 rw[ey,em,ed]at hD
 clear ey em ed
 obtain⟨s,es⟩:∃s:Nat,n%86400=s:=⟨(n%86400).toNat,by omega⟩
 have hs:s<86400:=by omega
 have HS:=hid es
 rw[es]at HT
 clear es
 have l1:=jy2 y2 (show m<100 by omega) (show d<100 by omega)
 have l2:=juw hs
 have hC:=fun w=>jhy n w h1 h2
 rw[HS.out]at hC
 have hM:=fun w=>jhe n w
 rw[jnu h1 h2]at hM
 go_enter Tryz.func139,Tryz.ntmps139
 go_wp2_with fail
 refine(hM _).mono ?_
 rintro e wM ⟨rfl,rfl⟩
 go_wp2_with fail
 refine(hC _).mono ?_
 rintro e w0 ⟨rfl,rfl⟩
 go_wp2_with fail
 refine(hD _ hT).mono ?_
 rintro e w1 ⟨rfl,hb1⟩
 go_wp2_with fail
 refine(jmb y m d _ y2 (by omega) (by omega) (hP.of_below hb1)).mono ?_
 rintro e w2 ⟨rfl,hb2⟩
 have hB2:=qtr hb1 hb2
 go_wp2_with fail
 refine(jkr s _ hs (hP.of_below hB2)).mono ?_
 rintro e w3 ⟨rfl,hb3⟩
 have hB3:=qtr hB2 hb3
 go_wp2
 go_ret
 exact⟨ret_str (by rw[HT.out];simp only[jid];simp),hB3⟩
theorem jh2(n:Int)(w:World)(h:n< -62135596800\/253402300799<n):
  Calls Tryz.prog 139 #[.int .i64 n] w fun e w'=>e=.returned (.string (S []))/\Below w.heap.size w w':=by
 have hM:=fun w=>jhe n w
 rw[jhl (by omega)]at hM
 go_enter Tryz.func139,Tryz.ntmps139
 go_wp2_with fail
 refine(hM _).mono ?_
 rintro e wM ⟨rfl,rfl⟩
 go_wp2
 go_ret
 exact⟨rfl,Below.refl _ _⟩
theorem jz4{n:Int}(h1: -62135596800<=n)(h2:n<=253402300799):jcs n=jvv n:=by unfold jcs;rw[if_pos (jnu h1 h2)]
theorem jz5{n:Int}(h:isB n (-62135596800) 253402300799=false):jcs n=[]:=by unfold jcs;rw[h];rfl
theorem jmf(n:Int)(w:World)(hT:Tab w)(hP:Pow w):
  Calls Tryz.prog 139 #[.int .i64 n] w fun e w'=>e=.returned (.string (S (jcs n)))/\Below w.heap.size w w':=by
 cases h:isB n (-62135596800) 253402300799
 ·rw[jz5 h];exact jh2 n w (by have:=j1m h;omega)
 ·have ⟨h1,h2⟩:=jbw h
  rw[jz4 h1 h2];exact jh1 n w h1 h2 hT hP
end
section
def jre(s:ByteArray):Prop:=s.size=19/\digs (s.extract 0 4)=true/\jac s 4=45/\digs (s.extract 5 7)=true/\jac s 7=45/\digs (s.extract 8 10)=true/\jac s 10=32/\digs (s.extract 11 13)=true/\jac s 13=58/\digs (s.extract 14 16)=true/\jac s 16=58/\digs (s.extract 17 19)=true
def rdT(s:ByteArray):Int:=num (drN (s.extract 0 4)) (drN (s.extract 5 7)) (drN (s.extract 8 10))*86400+drN (s.extract 11 13)*3600+drN (s.extract 14 16)*60+drN (s.extract 17 19)
def okT(s:ByteArray):Prop:=jre s/\vldB (drN (s.extract 0 4)) (drN (s.extract 5 7)) (drN (s.extract 8 10))=true/\drN (s.extract 11 13)<24/\drN (s.extract 14 16)<60/\drN (s.extract 17 19)<60
end
section
open Go.RowKit
def ckN(t:ByteArray):Int:=drN (t.extract 0 2)*3600+sixN (t.extract 2 5)*60+sixN (t.extract 5 8)
def ckB(t:ByteArray):Bool:=digs (t.extract 0 2)&&(sixB (t.extract 2 5)&&(sixB (t.extract 5 8)&&decide (drN (t.extract 0 2)<24)))
theorem jks(t:ByteArray)(w:World)(h:t.size=8):
  Calls Tryz.prog 223 #[.string t] w fun e w'=>e=.returned (.tuple #[.int .i64 (ckN t),.bool (ckB t)])/\w'=w:=by
 have hH:=fun w=>jap (t.extract 0 2) w (by rw[ByteArray.size_extract];omega)
 have hM:=fun w=>jcl (t.extract 2 5) w (by rw[ByteArray.size_extract];omega)
 have hS:=fun w=>jcl (t.extract 5 8) w (by rw[ByteArray.size_extract];omega)
 have b1:=jo1 (t.extract 0 2) (by rw[ByteArray.size_extract];omega)
 have b2:=jef (t.extract 2 5)
 have b3:=jef (t.extract 5 8)
 unfold ckN ckB
 generalize drN (t.extract 0 2)=n1 at *
 generalize digs (t.extract 0 2)=o1 at *
 generalize sixN (t.extract 2 5)=n2 at *
 generalize sixB (t.extract 2 5)=o2 at *
 generalize sixN (t.extract 5 8)=n3 at *
 generalize sixB (t.extract 5 8)=o3 at *
 cases o1
 ·go_enter Tryz.func223,Tryz.ntmps223
  go_wp2_with fail
  refine(hH _).mono ?_
  rintro e w1 ⟨rfl,rfl⟩
  go_wp2_with fail
  refine(hM _).mono ?_
  rintro e w2 ⟨rfl,rfl⟩
  go_wp2_with fail
  refine(hS _).mono ?_
  rintro e w3 ⟨rfl,rfl⟩
  go_wp2
  go_ret2
  exact⟨by simp,rfl⟩
 ·cases o2
  ·go_enter Tryz.func223,Tryz.ntmps223
   go_wp2_with fail
   refine(hH _).mono ?_
   rintro e w1 ⟨rfl,rfl⟩
   go_wp2_with fail
   refine(hM _).mono ?_
   rintro e w2 ⟨rfl,rfl⟩
   go_wp2_with fail
   refine(hS _).mono ?_
   rintro e w3 ⟨rfl,rfl⟩
   go_wp2
   go_ret2
   exact⟨by simp,rfl⟩
  ·cases o3
   ·go_enter Tryz.func223,Tryz.ntmps223
    go_wp2_with fail
    refine(hH _).mono ?_
    rintro e w1 ⟨rfl,rfl⟩
    go_wp2_with fail
    refine(hM _).mono ?_
    rintro e w2 ⟨rfl,rfl⟩
    go_wp2_with fail
    refine(hS _).mono ?_
    rintro e w3 ⟨rfl,rfl⟩
    go_wp2
    go_ret2
    exact⟨by simp,rfl⟩
   ·go_enter Tryz.func223,Tryz.ntmps223
    go_wp2_with fail
    refine(hH _).mono ?_
    rintro e w1 ⟨rfl,rfl⟩
    go_wp2_with fail
    refine(hM _).mono ?_
    rintro e w2 ⟨rfl,rfl⟩
    go_wp2_with fail
    refine(hS _).mono ?_
    rintro e w3 ⟨rfl,rfl⟩
    go_wp2
    go_ret2
    exact⟨by simp,rfl⟩
theorem jvw{w:World}{b:Nat}{x0 x1 x2 v0 v1 v2:Value}(h0:w.cell? ⟨b,0,none⟩=some x0)(h1:w.cell? ⟨b,1,none⟩=some x1)(h2:w.cell? ⟨b,2,none⟩=some x2):
  (((w.setCell ⟨b,0,none⟩ v0).setCell ⟨b,1,none⟩ v1).setCell ⟨b,2,none⟩ v2).cell? ⟨b,0,none⟩=some v0/\(((w.setCell ⟨b,0,none⟩ v0).setCell ⟨b,1,none⟩ v1).setCell ⟨b,2,none⟩ v2).cell? ⟨b,1,none⟩=some v1/\(((w.setCell ⟨b,0,none⟩ v0).setCell ⟨b,1,none⟩ v1).setCell ⟨b,2,none⟩ v2).cell? ⟨b,2,none⟩=some v2:=by
 refine⟨?_,?_,?_⟩
 ·rw[World.cell?_setCell_other _ _ _ _ (by simp),World.cell?_setCell_other _ _ _ _ (by simp),World.cell?_setCell_same _ _ _ h0]
 ·rw[World.cell?_setCell_other _ _ _ _ (by simp)]
  refine World.cell?_setCell_same _ _ _ (u:=x1) ?_
  rw[World.cell?_setCell_other _ _ _ _ (by simp)];exact h1
 ·refine World.cell?_setCell_same _ _ _ (u:=x2) ?_
  rw[World.cell?_setCell_other _ _ _ _ (by simp),World.cell?_setCell_other _ _ _ _ (by simp)];exact h2
theorem j40{w:World}(hT:Tab w){a b:Obj}:Tab ((w.alloc a).alloc b).drew:=(hT.alloc a).alloc b
theorem jbe(w:World)(a b:Obj):Below w.heap.size w ((w.alloc a).alloc b).drew:=
 below_drewN ((qal _ a).alloc (by simp) b) 1
def ptB(t:ByteArray):Bool:=decide (jac t 4=45)&&decide (jac t 7=45)
def dtB(t:ByteArray):Bool:=digs (t.extract 0 4)&&(digs (t.extract 5 7)&&(digs (t.extract 8 10)&&(ptB t&&vldB (drN (t.extract 0 4)) (drN (t.extract 5 7)) (drN (t.extract 8 10)))))
def dtV(t:ByteArray):Value:=.agg #[.int .i64 (drN (t.extract 0 4)),.int .i64 (drN (t.extract 5 7)),.int .i64 (drN (t.extract 8 10))]
theorem jmc(t:ByteArray)(w:World)(hT:Tab w)(h:t.size=10):
  Calls Tryz.prog 222 #[.string t] w fun e w'=>e=.returned (.tuple #[dtV t,.bool (dtB t)])/\Below w.heap.size w w':=by
 have hY:=fun w=>jap (t.extract 0 4) w (by rw[ByteArray.size_extract];omega)
 have hM:=fun w=>jap (t.extract 5 7) w (by rw[ByteArray.size_extract];omega)
 have hD:=fun w=>jap (t.extract 8 10) w (by rw[ByteArray.size_extract];omega)
 have hR:=fun w (hT:Tab w)=>jdl (drN (t.extract 0 4)) (drN (t.extract 5 7)) (drN (t.extract 8 10)) w hT
 have q4:((t[4].toNat:Int)==45)=decide (jac t 4=45):=by rw[jaf t 4 (by omega)];rfl
 have q7:((t[7].toNat:Int)==45)=decide (jac t 7=45):=by rw[jaf t 7 (by omega)];rfl
 unfold dtV dtB ptB
 generalize drN (t.extract 0 4)=n1 at *
 generalize digs (t.extract 0 4)=o1 at *
 generalize drN (t.extract 5 7)=n2 at *
 generalize digs (t.extract 5 7)=o2 at *
 generalize drN (t.extract 8 10)=n3 at *
 generalize digs (t.extract 8 10)=o3 at *
 generalize vldB n1 n2 n3=v at *
 generalize decide (jac t 4=45)=p4 at *
 generalize decide (jac t 7=45)=p7 at *
 cases p4
 ·cases o1
  ·go_enter Tryz.func222,Tryz.ntmps222
   go_wp2_with fail
   refine(hY _).mono ?_
   rintro e w1 ⟨rfl,rfl⟩
   go_wp2_with fail
   refine(hM _).mono ?_
   rintro e w2 ⟨rfl,rfl⟩
   go_wp2_with fail
   refine(hD _).mono ?_
   rintro e w3 ⟨rfl,rfl⟩
   go_wp2_with fail
   go_region
   go_wp2
   exact bodyPost_ret (v:=.tuple #[.agg #[.int .i64 n1,.int .i64 n2,.int .i64 n3],.bool false]) (by simp[results,Tryz.results222,go_sem]) rfl ⟨by simp,jbe _ _ _⟩
  ·cases o2
   ·go_enter Tryz.func222,Tryz.ntmps222
    go_wp2_with fail
    refine(hY _).mono ?_
    rintro e w1 ⟨rfl,rfl⟩
    go_wp2_with fail
    refine(hM _).mono ?_
    rintro e w2 ⟨rfl,rfl⟩
    go_wp2_with fail
    refine(hD _).mono ?_
    rintro e w3 ⟨rfl,rfl⟩
    go_wp2_with fail
    go_region
    go_wp2
    exact bodyPost_ret (v:=.tuple #[.agg #[.int .i64 n1,.int .i64 n2,.int .i64 n3],.bool false]) (by simp[results,Tryz.results222,go_sem]) rfl ⟨by simp,jbe _ _ _⟩
   ·cases o3
    ·go_enter Tryz.func222,Tryz.ntmps222
     go_wp2_with fail
     refine(hY _).mono ?_
     rintro e w1 ⟨rfl,rfl⟩
     go_wp2_with fail
     refine(hM _).mono ?_
     rintro e w2 ⟨rfl,rfl⟩
     go_wp2_with fail
     refine(hD _).mono ?_
     rintro e w3 ⟨rfl,rfl⟩
     go_wp2_with fail
     go_region
     go_wp2
     exact bodyPost_ret (v:=.tuple #[.agg #[.int .i64 n1,.int .i64 n2,.int .i64 n3],.bool false]) (by simp[results,Tryz.results222,go_sem]) rfl ⟨by simp,jbe _ _ _⟩
    ·go_enter Tryz.func222,Tryz.ntmps222
     go_wp2_with fail
     refine(hY _).mono ?_
     rintro e w1 ⟨rfl,rfl⟩
     go_wp2_with fail
     refine(hM _).mono ?_
     rintro e w2 ⟨rfl,rfl⟩
     go_wp2_with fail
     refine(hD _).mono ?_
     rintro e w3 ⟨rfl,rfl⟩
     go_wp2_with fail
     go_region
     go_wp2
     exact bodyPost_ret (v:=.tuple #[.agg #[.int .i64 n1,.int .i64 n2,.int .i64 n3],.bool false]) (by simp[results,Tryz.results222,go_sem]) rfl ⟨by simp,jbe _ _ _⟩
 ·cases p7
  ·cases o1
   ·go_enter Tryz.func222,Tryz.ntmps222
    go_wp2_with fail
    refine(hY _).mono ?_
    rintro e w1 ⟨rfl,rfl⟩
    go_wp2_with fail
    refine(hM _).mono ?_
    rintro e w2 ⟨rfl,rfl⟩
    go_wp2_with fail
    refine(hD _).mono ?_
    rintro e w3 ⟨rfl,rfl⟩
    go_wp2_with fail
    go_region
    go_wp2
    exact bodyPost_ret (v:=.tuple #[.agg #[.int .i64 n1,.int .i64 n2,.int .i64 n3],.bool false]) (by simp[results,Tryz.results222,go_sem]) rfl ⟨by simp,jbe _ _ _⟩
   ·cases o2
    ·go_enter Tryz.func222,Tryz.ntmps222
     go_wp2_with fail
     refine(hY _).mono ?_
     rintro e w1 ⟨rfl,rfl⟩
     go_wp2_with fail
     refine(hM _).mono ?_
     rintro e w2 ⟨rfl,rfl⟩
     go_wp2_with fail
     refine(hD _).mono ?_
     rintro e w3 ⟨rfl,rfl⟩
     go_wp2_with fail
     go_region
     go_wp2
     exact bodyPost_ret (v:=.tuple #[.agg #[.int .i64 n1,.int .i64 n2,.int .i64 n3],.bool false]) (by simp[results,Tryz.results222,go_sem]) rfl ⟨by simp,jbe _ _ _⟩
    ·cases o3
     ·go_enter Tryz.func222,Tryz.ntmps222
      go_wp2_with fail
      refine(hY _).mono ?_
      rintro e w1 ⟨rfl,rfl⟩
      go_wp2_with fail
      refine(hM _).mono ?_
      rintro e w2 ⟨rfl,rfl⟩
      go_wp2_with fail
      refine(hD _).mono ?_
      rintro e w3 ⟨rfl,rfl⟩
      go_wp2_with fail
      go_region
      go_wp2
      exact bodyPost_ret (v:=.tuple #[.agg #[.int .i64 n1,.int .i64 n2,.int .i64 n3],.bool false]) (by simp[results,Tryz.results222,go_sem]) rfl ⟨by simp,jbe _ _ _⟩
     ·go_enter Tryz.func222,Tryz.ntmps222
      go_wp2_with fail
      refine(hY _).mono ?_
      rintro e w1 ⟨rfl,rfl⟩
      go_wp2_with fail
      refine(hM _).mono ?_
      rintro e w2 ⟨rfl,rfl⟩
      go_wp2_with fail
      refine(hD _).mono ?_
      rintro e w3 ⟨rfl,rfl⟩
      go_wp2_with fail
      go_region
      go_wp2
      exact bodyPost_ret (v:=.tuple #[.agg #[.int .i64 n1,.int .i64 n2,.int .i64 n3],.bool false]) (by simp[results,Tryz.results222,go_sem]) rfl ⟨by simp,jbe _ _ _⟩
  ·cases o1
   ·go_enter Tryz.func222,Tryz.ntmps222
    go_wp2_with fail
    refine(hY _).mono ?_
    rintro e w1 ⟨rfl,rfl⟩
    go_wp2_with fail
    refine(hM _).mono ?_
    rintro e w2 ⟨rfl,rfl⟩
    go_wp2_with fail
    refine(hD _).mono ?_
    rintro e w3 ⟨rfl,rfl⟩
    go_wp2_with fail
    go_region
    go_wp2
    exact bodyPost_ret (v:=.tuple #[.agg #[.int .i64 n1,.int .i64 n2,.int .i64 n3],.bool false]) (by simp[results,Tryz.results222,go_sem]) rfl ⟨by simp,jbe _ _ _⟩
   ·cases o2
    ·go_enter Tryz.func222,Tryz.ntmps222
     go_wp2_with fail
     refine(hY _).mono ?_
     rintro e w1 ⟨rfl,rfl⟩
     go_wp2_with fail
     refine(hM _).mono ?_
     rintro e w2 ⟨rfl,rfl⟩
     go_wp2_with fail
     refine(hD _).mono ?_
     rintro e w3 ⟨rfl,rfl⟩
     go_wp2_with fail
     go_region
     go_wp2
     exact bodyPost_ret (v:=.tuple #[.agg #[.int .i64 n1,.int .i64 n2,.int .i64 n3],.bool false]) (by simp[results,Tryz.results222,go_sem]) rfl ⟨by simp,jbe _ _ _⟩
    ·cases o3
     ·go_enter Tryz.func222,Tryz.ntmps222
      go_wp2_with fail
      refine(hY _).mono ?_
      rintro e w1 ⟨rfl,rfl⟩
      go_wp2_with fail
      refine(hM _).mono ?_
      rintro e w2 ⟨rfl,rfl⟩
      go_wp2_with fail
      refine(hD _).mono ?_
      rintro e w3 ⟨rfl,rfl⟩
      go_wp2_with fail
      go_region
      go_wp2
      exact bodyPost_ret (v:=.tuple #[.agg #[.int .i64 n1,.int .i64 n2,.int .i64 n3],.bool false]) (by simp[results,Tryz.results222,go_sem]) rfl ⟨by simp,jbe _ _ _⟩
     ·go_enter Tryz.func222,Tryz.ntmps222
      go_wp2_with fail
      refine(hY _).mono ?_
      rintro e w1 ⟨rfl,rfl⟩
      go_wp2_with fail
      refine(hM _).mono ?_
      rintro e w2 ⟨rfl,rfl⟩
      go_wp2_with fail
      refine(hD _).mono ?_
      rintro e w3 ⟨rfl,rfl⟩
      go_wp2_with fail
      go_region_held3 (fun w'=>w'.cell? ⟨w.heap.size+1,0,none⟩=some (.int .i64 n1)/\w'.cell? ⟨w.heap.size+1,1,none⟩=some (.int .i64 n2)/\w'.cell? ⟨w.heap.size+1,2,none⟩=some (.int .i64 n3)) (go_keep) ((go_at_call 259;refine(hR _ ?_).mono ?_;(exact j40 hT);rintro e w4 ⟨rfl,hb⟩;obtain⟨hc,hf⟩:=jal hb;have hz:w.heap.size+1<w4.heap.size:=by { have:=hb.size;simp at this;omega }))
      all_goals
       go_wp2
       have hB:Below w.heap.size w w4:=(jbe w _ _).trans (hb.mono (by simp;omega))
       obtain⟨r0,r1,r2⟩:=jvw (w:=w4) (b:=w.heap.size) (v0:=.int .i64 n1) (v1:=.int .i64 n2) (v2:=.int .i64 n3) (x0:=.int .i64 0) (x1:=.int .i64 0) (x2:=.int .i64 0) (by rw[hc _ _ (by simp;omega)];simp) (by rw[hc _ _ (by simp;omega)];simp) (by rw[hc _ _ (by simp;omega)];simp)
       exact bodyPost_ret (v:=.tuple #[.agg #[.int .i64 n1,.int .i64 n2,.int .i64 n3],.bool v]) (by simp[results,Tryz.results222,go_sem,r0,r1,r2]) rfl ⟨by simp,((hB.setCell (Nat.le_refl _) _).setCell (Nat.le_refl _) _).setCell (Nat.le_refl _) _⟩
end
section
open Go.RowKit
theorem jg2(s:ByteArray)(a b c d:Nat)(hb:b<=s.size)(hd:a+d<=b):(s.extract a b).extract c d=s.extract (a+c) (a+d):=by
 apply ByteArray.ext_getElem
 ·simp only[ByteArray.size_extract];omega
 ·intro i h1 h2
  simp only[ByteArray.getElem_extract]
  congr 1;omega
def trB(s:ByteArray):Bool:=decide (s.size=19)&&(decide (jac s 10=32)&&(dtB (s.extract 0 10)&&ckB (s.extract 11 19)))
theorem jrk{s:ByteArray}{a b:Nat}(hb:b<=s.size)(hab:b=a+3):(sixB (s.extract a b)=true↔jac s a=58/\digs (s.extract (a+1) b)=true/\drN (s.extract (a+1) b)<60)/\(jac s a=58->sixN (s.extract a b)=drN (s.extract (a+1) b)):=by
 have sz:(s.extract a b).size=3:=by rw[ByteArray.size_extract];omega
 have e0:jac (s.extract a b) 0=jac s a:=jc8 hb (by omega)
 have e1:(s.extract a b).extract 1 3=s.extract (a+1) b:=by rw[jg2 _ _ _ _ _ hb (by omega)];congr 1;omega
 constructor
 ·unfold sixB sixH
  rw[sz,e0,e1]
  simp
 ·intro h
  unfold sixN sixH
  rw[sz,e0,e1,if_pos (by simp[h])]
theorem j3o(s:ByteArray):trB s=true↔okT s:=by
 unfold trB okT jre
 by_cases hz:s.size=19
 ·have x1:(s.extract 0 10).extract 0 4=s.extract 0 4:=jg2 s 0 10 0 4 (by omega) (by omega)
  have x2:(s.extract 0 10).extract 5 7=s.extract 5 7:=jg2 s 0 10 5 7 (by omega) (by omega)
  have x3:(s.extract 0 10).extract 8 10=s.extract 8 10:=jg2 s 0 10 8 10 (by omega) (by omega)
  have x4:(s.extract 11 19).extract 0 2=s.extract 11 13:=jg2 s 11 19 0 2 (by omega) (by omega)
  have x5:(s.extract 11 19).extract 2 5=s.extract 13 16:=jg2 s 11 19 2 5 (by omega) (by omega)
  have x6:(s.extract 11 19).extract 5 8=s.extract 16 19:=jg2 s 11 19 5 8 (by omega) (by omega)
  have y4:jac (s.extract 0 10) 4=jac s 4:=jc8 (by omega) (by omega)
  have y7:jac (s.extract 0 10) 7=jac s 7:=jc8 (by omega) (by omega)
  have s1:=(jrk (s:=s) (a:=13) (b:=16) (by omega) rfl).1
  have s2:=(jrk (s:=s) (a:=16) (b:=19) (by omega) rfl).1
  simp only[Nat.reduceAdd]at s1 s2
  unfold dtB ckB ptB
  rw[x1,x2,x3,x4,x5,x6,y4,y7]
  simp only[Bool.and_eq_true,decide_eq_true_eq,s1,s2]
  constructor
  ·rintro⟨_,h10,⟨a,b,c,⟨d,e⟩,f⟩,g,⟨h,i,j⟩,⟨k,l,m⟩,n⟩
   exact⟨⟨hz,a,d,b,e,c,h10,g,h,i,k,l⟩,f,n,j,m⟩
  ·rintro⟨⟨_,a,d,b,e,c,h10,g,h,i,k,l⟩,f,n,j,m⟩
   exact⟨hz,h10,⟨a,b,c,⟨d,e⟩,f⟩,g,⟨h,i,j⟩,⟨k,l,m⟩,n⟩
 ·simp[hz]
theorem j7v{s:ByteArray}(h:okT s):num (drN (s.extract 0 4)) (drN (s.extract 5 7)) (drN (s.extract 8 10))*86400+ckN (s.extract 11 19)=rdT s:=by
 obtain⟨⟨hz,a,d,b,e,c,h10,g,h13,i,h16,l⟩,f,n,j,m⟩:=h
 have x4:(s.extract 11 19).extract 0 2=s.extract 11 13:=jg2 s 11 19 0 2 (by omega) (by omega)
 have x5:(s.extract 11 19).extract 2 5=s.extract 13 16:=jg2 s 11 19 2 5 (by omega) (by omega)
 have x6:(s.extract 11 19).extract 5 8=s.extract 16 19:=jg2 s 11 19 5 8 (by omega) (by omega)
 have s1:=(jrk (s:=s) (a:=13) (b:=16) (by omega) rfl).2 h13
 have s2:=(jrk (s:=s) (a:=16) (b:=19) (by omega) rfl).2 h16
 simp only[Nat.reduceAdd]at s1 s2
 unfold ckN rdT
 rw[x4,x5,x6,s1,s2]
 omega
def trN(s:ByteArray):Int:=if trB s=true then rdT s else 0
def trC(s:ByteArray):Int:=if trB s=true then 0 else if 8000<s.size then 2 else 3
end
section
open Go.RowKit
theorem j4p{s:ByteArray}(h:¬okT s):trB s=false:=by
 cases hb:trB s
 ·rfl
 ·exact absurd ((j3o s).mp hb) h
theorem j4n{w:World}{b:Nat}{x0 x1 v0 v1:Value}(h0:w.cell? ⟨b,0,none⟩=some x0)(h1:w.cell? ⟨b,1,none⟩=some x1):
  ((w.setCell ⟨b,0,none⟩ v0).setCell ⟨b,1,none⟩ v1).cell? ⟨b,0,none⟩=some v0/\((w.setCell ⟨b,0,none⟩ v0).setCell ⟨b,1,none⟩ v1).cell? ⟨b,1,none⟩=some v1:=by
 refine⟨?_,?_⟩
 ·rw[World.cell?_setCell_other _ _ _ _ (by simp),World.cell?_setCell_same _ _ _ h0]
 ·refine World.cell?_setCell_same _ _ _ (u:=x1) ?_
  rw[World.cell?_setCell_other _ _ _ _ (by simp)];exact h1
theorem jmg(s:ByteArray)(w:World)(hT:Tab w)(hm:s.size<=maxLen):
  Calls Tryz.prog 176 #[.string s] w fun e w'=>e=.returned (.agg #[.int .i64 (trN s),.int .i64 (trC s)])/\Below w.heap.size w w':=by
 unfold maxLen at hm
 unfold trN trC
 by_cases h8:8000<s.size
 ·rw[j4p (fun h=>by have:=h.1.1;omega),if_pos h8]
  simp only[Bool.false_eq_true,if_false]
  go_enter Tryz.func176,Tryz.ntmps176
  go_wp2
  exact bodyPost_ret (v:=.agg #[.int .i64 0,.int .i64 2]) (by simp[results,Tryz.results176,go_sem]) rfl ⟨rfl,qal _ _⟩
 rw[if_neg h8]
 by_cases hz:s.size=19
 ·by_cases hc:jac s 10=32
  ·have x1:(s.extract 0 10).extract 0 4=s.extract 0 4:=jg2 s 0 10 0 4 (by omega) (by omega)
   have x2:(s.extract 0 10).extract 5 7=s.extract 5 7:=jg2 s 0 10 5 7 (by omega) (by omega)
   have x3:(s.extract 0 10).extract 8 10=s.extract 8 10:=jg2 s 0 10 8 10 (by omega) (by omega)
   have hD:=fun w (hT:Tab w)=>jmc (s.extract 0 10) w hT (by rw[ByteArray.size_extract];omega)
   have hC:=fun w=>jks (s.extract 11 19) w (by rw[ByteArray.size_extract];omega)
   have et:trB s=(dtB (s.extract 0 10)&&ckB (s.extract 11 19)):=by unfold trB;simp[hz,hc]
   have hc':((s[10].toNat:Int) != 32)=false:=by rw[jaf s 10 (by omega),hc];rfl
   have hs':((s.size:Int) != 19)=false:=by simp;omega
   have bd:=jo1 ((s.extract 11 19).extract 0 2) (by rw[ByteArray.size_extract,ByteArray.size_extract];omega)
   have bd2:=jef ((s.extract 11 19).extract 2 5)
   have bd3:=jef ((s.extract 11 19).extract 5 8)
   have cb:0<=ckN (s.extract 11 19)/\ckN (s.extract 11 19)<=999999999*3700:=by unfold ckN;omega
   clear bd bd2 bd3 hc
   cases hd:dtB (s.extract 0 10)
   ·rw[et,hd]
    rw[hd]at hD
    unfold dtV at hD
    clear et hd
    generalize drN ((s.extract 0 10).extract 0 4)=n1 at *
    generalize drN ((s.extract 0 10).extract 5 7)=n2 at *
    generalize drN ((s.extract 0 10).extract 8 10)=n3 at *
    generalize ckN (s.extract 11 19)=k at *
    generalize ckB (s.extract 11 19)=o at *
    simp only[Bool.false_and,Bool.false_eq_true,if_false]
    go_enter Tryz.func176,Tryz.ntmps176
    go_wp2_with fail
    refine(hD _ (hT.alloc _)).mono ?_
    rintro e w1 ⟨rfl,hb⟩
    obtain⟨hc,hf⟩:=jal hb
    have hz:w.heap.size<w1.heap.size:=by have:=hb.size;simp at this;omega
    have hB:Below w.heap.size w w1:=(qal _ _).trans (hb.mono (by simp))
    go_wp2_with fail
    refine(hC _).mono ?_
    rintro e w2 ⟨rfl,rfl⟩
    have hz2:w.heap.size≠w1.heap.size:=by omega
    go_wp2
    exact bodyPost_ret (v:=.agg #[.int .i64 0,.int .i64 3]) (by simp[results,Tryz.results176,go_sem,hc,hz]) rfl ⟨rfl,((hB.setCell (Nat.le_refl _) _).setCell (Nat.le_refl _) _).alloc (by have:=hB.size;simpa using this) _⟩
   ·cases hk:ckB (s.extract 11 19)
    ·rw[et,hd,hk]
     rw[hd]at hD
     rw[hk]at hC
     unfold dtV at hD
     clear et hd hk
     generalize drN ((s.extract 0 10).extract 0 4)=n1 at *
     generalize drN ((s.extract 0 10).extract 5 7)=n2 at *
     generalize drN ((s.extract 0 10).extract 8 10)=n3 at *
     generalize ckN (s.extract 11 19)=k at *
     simp only[Bool.and_false,Bool.false_eq_true,if_false]
     go_enter Tryz.func176,Tryz.ntmps176
     go_wp2_with fail
     refine(hD _ (hT.alloc _)).mono ?_
     rintro e w1 ⟨rfl,hb⟩
     obtain⟨hc,hf⟩:=jal hb
     have hz:w.heap.size<w1.heap.size:=by have:=hb.size;simp at this;omega
     have hB:Below w.heap.size w w1:=(qal _ _).trans (hb.mono (by simp))
     go_wp2_with fail
     refine(hC _).mono ?_
     rintro e w2 ⟨rfl,rfl⟩
     have hz2:w.heap.size≠w1.heap.size:=by omega
     go_wp2
     exact bodyPost_ret (v:=.agg #[.int .i64 0,.int .i64 3]) (by simp[results,Tryz.results176,go_sem,hc,hz]) rfl ⟨rfl,((hB.setCell (Nat.le_refl _) _).setCell (Nat.le_refl _) _).alloc (by have:=hB.size;simpa using this) _⟩
    ·have ht:trB s=true:=by rw[et,hd,hk];rfl
     have ho:=(j3o s).mp ht
     have hn:=j7v ho
     have hv:=ho.2.1
     have nb:=jk8 hv
     have hX:=fun w (hT:Tab w)=>jdk (drN (s.extract 0 4)) (drN (s.extract 5 7)) (drN (s.extract 8 10)) w hT hv
     rw[ht, <- hn]
     rw[hd]at hD
     rw[hk]at hC
     unfold dtV at hD
     rw[x1,x2,x3]at hD
     clear et hd hk ht ho hn hv
     generalize num (drN (s.extract 0 4)) (drN (s.extract 5 7)) (drN (s.extract 8 10))=q at *
     generalize drN (s.extract 0 4)=n1 at *
     generalize drN (s.extract 5 7)=n2 at *
     generalize drN (s.extract 8 10)=n3 at *
     generalize ckN (s.extract 11 19)=k at *
     simp only[if_true]
     go_enter Tryz.func176,Tryz.ntmps176
     go_wp2_with fail
     refine(hD _ (hT.alloc _)).mono ?_
     rintro e w1 ⟨rfl,hb⟩
     obtain⟨hc,hf⟩:=jal hb
     have hz:w.heap.size<w1.heap.size:=by have:=hb.size;simp at this;omega
     have hB:Below w.heap.size w w1:=(qal _ _).trans (hb.mono (by simp))
     go_wp2_with fail
     refine(hC _).mono ?_
     rintro e w2 ⟨rfl,rfl⟩
     have hz2:w.heap.size≠w1.heap.size:=by omega
     have hT1:Tab w1:=hT.of_below hB
     go_wp2_with fail
     refine(hX _ (hT1.alloc _)).mono ?_
     rintro e w3 ⟨rfl,hb3⟩
     obtain⟨hc3,hf3⟩:=jal hb3
     have hB3:Below w.heap.size w w3:=(hB.alloc hB.size _).trans (hb3.mono (by have:=hB.size;simp;omega))
     have hz3:w.heap.size<w3.heap.size:=by have:=hb3.size;simp at this;omega
     have hbz:=(hb.alloc hb.size _).trans (hb3.mono (by have:=hb.size;simp at this;simp;omega))
     obtain⟨hcz,_⟩:=jal hbz
     obtain⟨r0,r1⟩:=j4n (w:=w3) (b:=w.heap.size) (v0:=.int .i64 (q*86400+k)) (v1:=.int .i64 0) (x0:=.int .i64 0) (x1:=.int .i64 0) (by rw[hcz _ _ (by simp)];simp) (by rw[hcz _ _ (by simp)];simp)
     go_wp2
     exact bodyPost_ret (v:=.agg #[.int .i64 (q*86400+k),.int .i64 0]) (by simp[results,Tryz.results176,go_sem,r0,r1]) rfl ⟨rfl,(hB3.setCell (Nat.le_refl _) _).setCell (Nat.le_refl _) _⟩
  ·have hc':((s[10].toNat:Int) != 32)=true:=by rw[jaf s 10 (by omega)];simpa using hc
   have hs':((s.size:Int) != 19)=false:=by simp;omega
   rw[j4p (fun h=>hc h.1.2.2.2.2.2.2.1)]
   clear hc
   simp only[Bool.false_eq_true,if_false]
   go_enter Tryz.func176,Tryz.ntmps176
   go_wp2
   exact bodyPost_ret (v:=.agg #[.int .i64 0,.int .i64 3]) (by simp[results,Tryz.results176,go_sem]) rfl ⟨rfl,qal _ _⟩
 ·have hs':((s.size:Int) != 19)=true:=by simp;omega
  rw[j4p (fun h=>hz h.1.1)]
  simp only[Bool.false_eq_true,if_false]
  go_enter Tryz.func176,Tryz.ntmps176
  go_wp2
  exact bodyPost_ret (v:=.agg #[.int .i64 0,.int .i64 3]) (by simp[results,Tryz.results176,go_sem]) rfl ⟨rfl,qal _ _⟩
end
end Go.Proofs.YtofdpfpdocpbpaaGreatDoor
