/- Packed. -/
import Derived.Test.YtofdpfpdocpbpaaGreatDoorSAd
import Derived.Test.YtofdpfpdocpbpaaGreatDoorSLd
import Derived.Deep.RegionHeld3
import Derived.BigQuiet
import Derived.Test.YtofdpfpdocpbpaaGreatDoorKMd
set_option maxRecDepth 20000
set_option maxHeartbeats 20000000
set_option linter.unusedSimpArgs false
namespace Go.Proofs.YtofdpfpdocpbpaaGreatDoor
section
open Go.RowKit
theorem jix(p:Nat)(a:Option Addr)(len cap:Nat)(w:World)(h:j7c w a len)(hl:len<=1048576)(hp:p<=1):
  Calls Tryz.prog 4 #[.slice a len cap,.int .i64 p,.int .i64 30] w fun e w'=>∃x:Nat,e=.returned (.int .i64 x)/\x<30/\w'=w:=by
 by_cases h0:len=0
 ·subst h0
  go_enter Tryz.func4,Tryz.ntmps4
  go_wp2
  go_ret
  exact⟨0,rfl,by omega,rfl⟩
 ·rcases h with h|⟨b,o,rfl,hc⟩
  ·exact absurd h h0
  ·have hr:p%len<len:=Nat.mod_lt _ (by omega)
   obtain⟨z,hz,z0,z1⟩:=hc (p%len) hr
   have q0:((len:Int)==0)=false:=by simp;omega
   have q1:(p:Int).tmod len=((p%len:Nat):Int):=by rw[Int.tmod_eq_emod_of_nonneg (by omega)];omega
   have q2:(0:Int)<len:=by omega
   have q3:(len:Int)≠0:=by omega
   generalize p%len=r at *
   have r1:(r:Int)<len:=by omega
   go_enter Tryz.func4,Tryz.ntmps4
   go_wp2
   go_ret
   exact⟨(z%30).toNat,by rw[show(((z%30).toNat:Nat):Int)=z%30 by omega];rfl,by omega,rfl⟩
theorem jsq(c:UInt8)(W:World)(b:Nat)(h:W.cell? ⟨b,0,none⟩=some (.int .u8 c.toNat)):(convert 22 9 (.slice (some ⟨b,0,none⟩) 1 1)).run Tryz.prog W=.ok (.string ⟨#[c]⟩) W:=
 run_convert_bytes_back _ 22 9 5 ⟨b,0,none⟩ 1 [c] Tryz.underlying22 Tryz.underlying5 Tryz.underlying9 (fun j hj=>by
  have e:j=0:=by simpa using hj
  subst e
  simp[go_sem,h])
theorem j6w(k:Nat)(h:k<10)(w:World):Calls Tryz.prog 5 #[.int .i64 k] w fun e w'=>e=.returned (.string ⟨#[UInt8.ofNat (48+k)]⟩)/\Below w.heap.size w w':=by
 have hu:(UInt8.ofNat (48+k)).toNat=48+k:=UInt8.toNat_ofNat_of_lt' (by have:UInt8.size=256:=rfl;omega)
 have b1:=qal w (.cells #[.int .u8 (48+(k:Int))] 5)
 have kc:=jsq (UInt8.ofNat (48+k)) (w.alloc (.cells #[.int .u8 (48+(k:Int))] 5)) w.heap.size (by rw[hu];simp[go_sem])
 have g:(k:Int)<10:=by omega
 generalize UInt8.ofNat (48+k)=c at *
 clear hu
 go_enter Tryz.func5,Tryz.ntmps5
 go_wp2
 go_ret
 exact⟨rfl,b1⟩
theorem jfb{P:Program}{md:Region.Mode}{ops:Array Oper}{Q:Exit->Act->World->Prop}{S1 S2:World->Prop}(h:∀w,S2 w->S1 w):
  ∀(fuel:Nat) (listed:Array Bool) (a:Act) (w:World),wpAnyH P md ops Q S2 fuel listed a w->wpAnyH P md ops Q S1 fuel listed a w
 |0,_,_,_,hw=>hw
 |n+1,_,_,_,⟨h0,h1⟩=>⟨h0,fun i hi=>wpOp_mono (fun a w ⟨hs,hw⟩=>⟨h w hs,jfb h n _ a w hw⟩) (h1 i hi)⟩
theorem wr64(x:Int)(h1:0<=x)(h2:x<=1000000):IntKind.i64.wrap x=x:=by
 have e:IntKind.i64.wrap x=(if x%18446744073709551616≥9223372036854775808 then x%18446744073709551616-18446744073709551616 else x%18446744073709551616):=by unfold IntKind.wrap;simp[IntKind.bits,IntKind.signed]
 rw[e]
 split<;>omega
theorem wr8(x:Int)(h1:0<=x)(h2:x<=255):IntKind.u8.wrap x=x:=by
 have e:IntKind.u8.wrap x=x%256:=by unfold IntKind.wrap;simp[IntKind.bits,IntKind.signed]
 rw[e]
 omega
theorem jmq(k:Nat)(h:10<=k)(h2:k<=100000)(T:ByteArray)(hT:T.size<=20)(hrec:∀W,Calls Tryz.prog 5 #[.int .i64 ((k:Int) / 10)] W fun e w'=>e=.returned (.string T)/\Below W.heap.size W w')(w:World):
  Calls Tryz.prog 5 #[.int .i64 k] w fun e w'=>e=.returned (.string (T++⟨#[UInt8.ofNat (48+k%10)]⟩))/\Below w.heap.size w w':=by
 have hu:(UInt8.ofNat (48+k%10)).toNat=48+k%10:=UInt8.toNat_ofNat_of_lt' (by have:UInt8.size=256:=rfl;omega)
 have g:¬(k:Int)<10:=by omega
 have kc:=fun(W:World) (bb:Nat) (hh:W.cell? ⟨bb,0,none⟩=some (.int .u8 (48+(k:Int)%10)))=>jsq (UInt8.ofNat (48+k%10)) W bb (by rw[hu];rw[hh];congr 2)
 have q1:(k:Int).tdiv 10=(k:Int) / 10:=Int.tdiv_eq_ediv_of_nonneg (by omega)
 have q2:(k:Int).tmod 10=(k:Int)%10:=Int.tmod_eq_emod_of_nonneg (by omega)
 generalize UInt8.ofNat (48+k%10)=c at *
 clear hu
 have d1:0<=(k:Int) / 10/\(k:Int) / 10<=100000:=by omega
 have d2:0<=(k:Int)%10/\(k:Int)%10<=9:=by omega
 generalize (k:Int) / 10=d at *
 generalize (k:Int)%10=r at *
 have s1:IntKind.i64.wrap d=d:=wr64 _ (by omega) (by omega)
 have s2:IntKind.i64.wrap r=r:=wr64 _ (by omega) (by omega)
 have s3:IntKind.i64.wrap (48+r)=48+r:=wr64 _ (by omega) (by omega)
 have s4:IntKind.u8.wrap (48+r)=48+r:=wr8 _ (by omega) (by omega)
 go_enter Tryz.func5,Tryz.ntmps5
 go_wp2_with fail
 refine wp_region_noPanic ?_
 refine wp_region_held_drew (S:=fun _=>True) (by kernel_rfl) trivial (fun hHeld=>?_)
 have hD:Below w.heap.size w w.drew:=⟨rfl,rfl,rfl,Nat.le_refl _,fun _ _=>rfl⟩
 refine wpAnyH_take (i:=0) (v:=?v1) rfl (by kernel_rfl) (by kernel_rfl) (by kernel_rfl) (fun _ _ _ h=>h) (Or.inl ⟨by kernel_rfl,?y1⟩) hHeld ?z1
 case y1=>(intro wq hSw;(try dsimp only at hSw);go_simp;try with_reducible rfl)
 try simp only[Act.put,qq1,qq2,qq3]
 refine wpAnyH_take (i:=1) (v:=(.int .i64 d)) rfl (by kernel_rfl) (by kernel_rfl) (by kernel_rfl) (fun _ _ _ h=>h) (Or.inl ⟨by kernel_rfl,?y2⟩) hHeld ?z2
 case y2=>(intro wq hSw;(try dsimp only at hSw);go_simp;try simp only[q1,q2,s1,s2,s3,s4])
 try simp only[Act.put,qq1,qq2,qq3]
 refine wpAnyH_take (i:=3) (v:=?v3) rfl (by kernel_rfl) (by kernel_rfl) (by kernel_rfl) (fun _ _ _ h=>h) (Or.inl ⟨by kernel_rfl,?y3⟩) hHeld ?z3
 case y3=>(intro wq hSw;(try dsimp only at hSw);go_simp;try with_reducible rfl)
 try simp only[Act.put,qq1,qq2,qq3]
 refine wpAnyH_take (i:=4) (v:=(.int .i64 r)) rfl (by kernel_rfl) (by kernel_rfl) (by kernel_rfl) (fun _ _ _ h=>h) (Or.inl ⟨by kernel_rfl,?y4⟩) hHeld ?z4
 case y4=>(intro wq hSw;(try dsimp only at hSw);go_simp;try simp only[q1,q2,s1,s2,s3,s4])
 try simp only[Act.put,qq1,qq2,qq3]
 refine wpAnyH_take (i:=5) (v:=(.int .i64 (48+r))) rfl (by kernel_rfl) (by kernel_rfl) (by kernel_rfl) (fun _ _ _ h=>h) (Or.inl ⟨by kernel_rfl,?y5⟩) hHeld ?z5
 case y5=>(intro wq hSw;(try dsimp only at hSw);go_simp;try simp only[q1,q2,s1,s2,s3,s4])
 try simp only[Act.put,qq1,qq2,qq3]
 refine wpAnyH_take (i:=6) (v:=(.int .u8 (48+r))) rfl (by kernel_rfl) (by kernel_rfl) (by kernel_rfl) (fun _ _ _ h=>h) (Or.inl ⟨by kernel_rfl,?y6⟩) hHeld ?z6
 case y6=>(intro wq hSw;(try dsimp only at hSw);go_simp;try simp only[q1,q2,s1,s2,s3,s4])
 try simp only[Act.put,qq1,qq2,qq3]
 refine wpAnyH_ready (rs:=[2,7]) (by kernel_rfl) (by simp) ?_
 refine AllReadyH.cons rfl (fun K hK=>?_) (AllReadyH.cons rfl (fun K hK=>?_) AllReadyH.nil)
 ·go_simp
  refine(hrec _).mono ?_
  rintro q w3 ⟨rfl,hb3⟩
  go_wp2_with fail
  refine hK.out _ _ trivial (fun hHeld=>?_)
  clear hK K
  try simp only[Act.put,qq1,qq2,qq3]
  refine wpAnyH_ready (rs:=[7]) (by kernel_rfl) (by simp) ?_
  refine AllReadyH.cons rfl (fun K hK=>?_) AllReadyH.nil
  have hc0:(w3.alloc (.cells #[.int .u8 (48+r)] 5)).cell? ⟨w3.heap.size,0,none⟩=some (.int .u8 (48+r)):=by simp[go_sem]
  have hbb:=((qtr hD hb3).alloc (qtr hD hb3).size (.cells #[.int .u8 (48+r)] 5))
  go_wp2_with fail
  refine hK.out _ _ trivial (fun hHeld=>?_)
  clear hK K
  try simp only[Act.put,qq1,qq2,qq3]
  refine jfb (S2:=fun w'=>w'.cell? ⟨w3.heap.size,0,none⟩=some (.int .u8 (48+r))) (fun _ _=>trivial) _ _ _ _ ?_
  replace hHeld:=hc0
  refine wpAnyH_take (i:=8) (v:=(.string ⟨#[c]⟩)) rfl (by kernel_rfl) (by kernel_rfl) (by kernel_rfl) (fun _ _ _ h=>h) (Or.inl ⟨by kernel_rfl,?y7⟩) hHeld ?z7
  case y7=>(intro wq hSw;(try dsimp only at hSw);have kk:=kc wq _ hSw;(try go_simp);(try simp only[kk]))
  try simp only[Act.put,qq1,qq2,qq3]
  refine wpAnyH_take (i:=9) (v:=(.string (T++⟨#[c]⟩))) rfl (by kernel_rfl) (by kernel_rfl) (by kernel_rfl) (fun _ _ _ h=>h) (Or.inl ⟨by kernel_rfl,?y8⟩) hHeld ?z8
  case y8=>(intro wq hSw;(try dsimp only at hSw);go_simp;omega)
  try simp only[Act.put,qq1,qq2,qq3]
  refine wpAnyH_take (i:=10) (v:=?v9) rfl (by kernel_rfl) (by kernel_rfl) (by kernel_rfl) (fun _ _ _ h=>h) (Or.inl ⟨by kernel_rfl,?y9⟩) hHeld ?z9
  case y9=>(intro wq hSw;(try dsimp only at hSw);go_simp;try with_reducible rfl)
  try simp only[Act.put,qq1,qq2,qq3]
  try simp only[Act.put,List.getElem_toArray,List.getElem_cons_succ,List.getElem_cons_zero,qq1,qq2,qq3]
  refine wpAnyH_done (by kernel_rfl) ?_ _
  refine NoPanic.normal ?_
  clear hHeld
  go_wp2
  go_ret
  exact⟨rfl,hbb⟩
 ·go_simp
  go_wp2_with fail
  refine hK.out _ _ trivial (fun hHeld=>?_)
  clear hK K
  try simp only[Act.put,qq1,qq2,qq3]
  have hc0:(w.drew.alloc (.cells #[.int .u8 (48+r)] 5)).cell? ⟨w.drew.heap.size,0,none⟩=some (.int .u8 (48+r)):=by simp[go_sem]
  have hbb:=hD.alloc hD.size (.cells #[.int .u8 (48+r)] 5)
  refine jfb (S2:=fun w'=>w'.cell? ⟨w.drew.heap.size,0,none⟩=some (.int .u8 (48+r))) (fun _ _=>trivial) _ _ _ _ ?_
  replace hHeld:=hc0
  refine wpAnyH_take (i:=8) (v:=(.string ⟨#[c]⟩)) rfl (by kernel_rfl) (by kernel_rfl) (by kernel_rfl) (fun _ _ _ h=>h) (Or.inl ⟨by kernel_rfl,?y10⟩) hHeld ?z10
  case y10=>(intro wq hSw;(try dsimp only at hSw);have kk:=kc wq w.heap.size hSw;(try go_simp);(try simp only[kk]);(try go_simp))
  try simp only[Act.put,qq1,qq2,qq3]
  refine wpAnyH_ready (rs:=[2]) (by kernel_rfl) (by simp) ?_
  refine AllReadyH.cons rfl (fun K hK=>?_) AllReadyH.nil
  go_simp
  refine(hrec _).mono ?_
  rintro q w3 ⟨rfl,hb3⟩
  have hh3:=jab hb3 hHeld
  go_wp2_with fail
  refine hK.out _ _ hh3 (fun hHeld=>?_)
  clear hK K
  try simp only[Act.put,qq1,qq2,qq3]
  refine wpAnyH_take (i:=9) (v:=(.string (T++⟨#[c]⟩))) rfl (by kernel_rfl) (by kernel_rfl) (by kernel_rfl) (fun _ _ _ h=>h) (Or.inl ⟨by kernel_rfl,?y11⟩) hHeld ?z11
  case y11=>(intro wq hSw;(try dsimp only at hSw);go_simp;omega)
  try simp only[Act.put,qq1,qq2,qq3]
  refine wpAnyH_take (i:=10) (v:=?v12) rfl (by kernel_rfl) (by kernel_rfl) (by kernel_rfl) (fun _ _ _ h=>h) (Or.inl ⟨by kernel_rfl,?y12⟩) hHeld ?z12
  case y12=>(intro wq hSw;(try dsimp only at hSw);go_simp;try with_reducible rfl)
  try simp only[Act.put,qq1,qq2,qq3]
  try simp only[Act.put,List.getElem_toArray,List.getElem_cons_succ,List.getElem_cons_zero,qq1,qq2,qq3]
  refine wpAnyH_done (by kernel_rfl) ?_ _
  refine NoPanic.normal ?_
  clear hHeld
  go_wp2
  go_ret
  exact⟨rfl,(qtr hbb hb3)⟩
theorem j2z(k:Nat)(h:1000<=k)(h2:k<=9999)(w:World):Calls Tryz.prog 5 #[.int .i64 k] w fun e w'=>e=.returned (.string (((⟨#[UInt8.ofNat (48+k / 1000)]⟩++⟨#[UInt8.ofNat (48+k / 100%10)]⟩)++⟨#[UInt8.ofNat (48+k / 10%10)]⟩)++⟨#[UInt8.ofNat (48+k%10)]⟩))/\Below w.heap.size w w':=by
 have e1:(k:Int) / 10=((k / 10:Nat):Int):=by omega
 have e2:((k / 10:Nat):Int) / 10=((k / 100:Nat):Int):=by omega
 have e3:((k / 100:Nat):Int) / 10=((k / 1000:Nat):Int):=by omega
 refine jmq k (by omega) (by omega) _ (by simp only[ByteArray.size_append];show(1:Nat)+1+1<=20;omega) (fun W=>?_) w
 rw[e1]
 refine jmq (k / 10) (by omega) (by omega) _ (by simp only[ByteArray.size_append];show(1:Nat)+1<=20;omega) (fun W=>?_) W
 rw[e2]
 refine jmq (k / 100) (by omega) (by omega) _ (by show(1:Nat)<=20;omega) (fun W=>?_) W
 rw[e3]
 exact j6w (k / 1000) (by omega) W
end
section
open Go.RowKit
theorem jnq(y:Nat)(hy:y<30)(w:World):Calls Tryz.prog 5 #[.int .i64 (1990+(y:Int))] w fun e w'=>e=.returned (.string (yS y))/\Below w.heap.size w w':=by
 have h:=j2z (1990+y) (by omega) (by omega) w
 have e:((1990+y:Nat):Int)=1990+(y:Int):=by omega
 have e2:((⟨#[UInt8.ofNat (48+(1990+y) / 1000)]⟩++⟨#[UInt8.ofNat (48+(1990+y) / 100%10)]⟩)++⟨#[UInt8.ofNat (48+(1990+y) / 10%10)]⟩)++⟨#[UInt8.ofNat (48+(1990+y)%10)]⟩=yS y:=by kernel_rfl
 rw[e,e2]at h
 exact h
def cR6:ByteArray:=⟨#[114,117,108,101,115,32]⟩
def cP1:ByteArray:=⟨#[10,112,117,116,32,49,32,97,32,80,32]⟩
def cM1:ByteArray:=⟨#[45,48,55,45,48,49,32,49,50,58,48,48,58,48,48,32,48,32,48,10,112,117,116,32,50,32,98,32,80,32]⟩
def cM2:ByteArray:=⟨#[45,49,50,45,48,49,32,49,50,58,48,48,58,48,48,32,48,32,48,10,115,121,110,99,10,97,116,32,49,10,97,116,32,50,10]⟩
def cQ1:ByteArray:=⟨#[10,97,116,32,49,10,97,116,32,50,10,98,97,116,99,104,32,49,10,97,116,32,49,10,99,114,97,115,104,32,48,10,97,116,32,49,10,102,105,110,100,32]⟩
def cQ2:ByteArray:=⟨#[45,48,49,45,48,49,32,48,48,58,48,48,58,48,48,32]⟩
def cQ3:ByteArray:=⟨#[45,49,50,45,51,49,32,48,48,58,48,48,58,48,48,10,97,115,111,102,32,49,10]⟩
def lawA(Y:ByteArray):ByteArray:=(((((((cR6++jls)++sMax)++jpj)++cP1)++Y)++cM1)++Y)++cM2
def lawB(A Y C:ByteArray):ByteArray:=(((((((((A++cR6)++jls)++C)++jpj)++cQ1)++Y)++cQ2)++Y)++cQ3)
def jyi:List ByteArray->ByteArray->ByteArray
 |[],T=>T
 |l::L,T=>jyi L (jbr T l)
theorem jsj:∀(L:List ByteArray) (T:ByteArray) (M:List ByteArray),Zw T M->(∀l∈L,jas l=true)->Zw (jyi L T) (M++L)
 |[],T,M,h,_=>by simpa [jyi]using h
 |l::L,T,M,h,hl=>by have:=jsj L (jbr T l) (M++[l]) (h.snoc (hl l (by simp))) (fun x hx=>hl x (by simp[hx]));simpa [jyi]using this
theorem j1h(y c:Nat):lawB (lawA (yS y)) (yS y) (yS c)=jyi (lD y c) ⟨#[]⟩:=by kernel_rfl
theorem jr7(y c:Nat):(lawB (lawA (yS y)) (yS y) (yS c)).size=392:=by kernel_rfl
theorem jxs{y c:Nat}(hy:y<30)(hc:c<30):jh5 (lawB (lawA (yS y)) (yS y) (yS c))=lD y c:=by
 have h:Zw (lawB (lawA (yS y)) (yS y) (yS c)) (lD y c):=by
  rw[j1h]
  refine jsj (lD y c) ⟨#[]⟩ [] Zw.nil (fun l hl=>?_)
  simp only[lD,List.mem_cons,List.not_mem_nil,or_false]at hl
  rcases hl with rfl|rfl|rfl|rfl|rfl|rfl|rfl|rfl|rfl|rfl|rfl|rfl|rfl|rfl|rfl
  ·exact lkc.1.2
  ·exact b1 hy
  ·exact b2 hy
  ·exact lkc.2.1.2
  ·exact lkc.2.2.1.2
  ·exact lkc.2.2.2.1.2
  ·exact b6 hc
  ·exact lkc.2.2.1.2
  ·exact lkc.2.2.2.1.2
  ·exact lkc.2.2.2.2.1.2
  ·exact lkc.2.2.1.2
  ·exact lkc.2.2.2.2.2.1.2
  ·exact lkc.2.2.1.2
  ·exact bF hy
  ·exact lkc.2.2.2.2.2.2.2
 rw[jo2 (by rw[jr7];omega)]
 ·rw[h.lf]
 ·unfold jdm
  rw[h.lf,h.all]
  simp[lD]
def cT10:ByteArray:=⟨#[32,49,48,58,48,48,58,48,48]⟩
def cT11:ByteArray:=⟨#[32,49,49,58,48,48,58,48,48]⟩
theorem jz9{y:Nat}(hy:y<30):tA y=dt1 (yS y)++cT10:=by
 unfold tA
 rw[(yOk hy).s1]
 kernel_rfl
theorem jz8{y:Nat}(hy:y<30):tB y=dt2 (yS y)++cT11:=by
 unfold tB
 rw[(yOk hy).s3]
 kernel_rfl
theorem tC_1{y c:Nat}(hy:y<30)(h:y<=c):tC y c=dt1 (yS y)++cT10:=by
 unfold tC at1
 rw[if_pos h,(yOk hy).s1]
 kernel_rfl
theorem tC_2{y c:Nat}(hy:y<30)(h:¬y<=c):tC y c=dt1 (yS y)++cT11:=by
 unfold tC at1
 rw[if_neg h,(yOk hy).s2]
 kernel_rfl
def cW1:ByteArray:=⟨#[111,107,10,111,107,10,111,107,10,115,121,110,99,101,100,10]⟩
def cW2:ByteArray:=⟨#[45,48,55,45,48,49,32,49,48,58,48,48,58,48,48,10]⟩
def cW3:ByteArray:=⟨#[45,49,50,45,48,49,32,49,49,58,48,48,58,48,48,10]⟩
def cW4:ByteArray:=⟨#[45,48,55,45,48,49,32]⟩
def cW5:ByteArray:=⟨#[58,48,48,58,48,48,10]⟩
def cW6:ByteArray:=⟨#[111,107,10]⟩
def cW7:ByteArray:=⟨#[45,49,50,45,48,49,32,49,49,58,48,48,58,48,48,10,111,107,32]⟩
def cW8:ByteArray:=⟨#[10]⟩
def cW9:ByteArray:=⟨#[108,105,110,101,115,32,51,10]⟩
def cW10:ByteArray:=⟨#[45,48,55,45,48,49,32,49,48,58,48,48,58,48,48,10,49,32,50,10,49,10]⟩
def s10:ByteArray:=⟨#[49,48]⟩
def s11:ByteArray:=⟨#[49,49]⟩
def s0:ByteArray:=⟨#[48]⟩
def s1:ByteArray:=⟨#[49]⟩
def ju8(Y:ByteArray):ByteArray:=(((cW1++Y)++cW2)++Y)++cW3
def ju7(Y H:ByteArray):ByteArray:=((Y++cW4)++H)++cW5
def wantB(A Y C N:ByteArray):ByteArray:=(((((((((A++cW6)++C)++Y)++cW7)++N)++cW8)++C)++cW9)++Y)++cW10
theorem j7j{y c:Nat}(hy:y<30)(h:y<=c):outT (ouD y c) 15=wantB (ju8 (yS y)) (yS y) (ju7 (yS y) s10) s0:=by
 simp only[outT,ouD]
 rw[jz9 hy,jz8 hy,tC_1 hy h,show folM y c=0 from if_pos h]
 kernel_rfl
theorem j7i{y c:Nat}(hy:y<30)(h:¬y<=c):outT (ouD y c) 15=wantB (ju8 (yS y)) (yS y) (ju7 (yS y) s11) s1:=by
 simp only[outT,ouD]
 rw[jz9 hy,jz8 hy,tC_2 hy h,show folM y c=1 from if_neg h]
 kernel_rfl
theorem szC{y c:Nat}(hy:y<30):(tC y c).size<=30:=by
 by_cases h:y<=c
 ·rw[tC_1 hy h]
  exact Nat.le_of_ble_eq_true (by kernel_rfl)
 ·rw[tC_2 hy h]
  exact Nat.le_of_ble_eq_true (by kernel_rfl)
theorem jwy{y c:Nat}(hy:y<30):∀i,(ouD y c i).size<=30
 |0=>by show(2:Nat)<=30;omega
 |1=>by show(2:Nat)<=30;omega
 |2=>by show(2:Nat)<=30;omega
 |3=>by show(6:Nat)<=30;omega
 |4=>by show(tA y).size<=30;rw[jz9 hy];exact Nat.le_of_ble_eq_true (by kernel_rfl)
 |5=>by show(tB y).size<=30;rw[jz8 hy];exact Nat.le_of_ble_eq_true (by kernel_rfl)
 |6=>by show(2:Nat)<=30;omega
 |7=>szC hy
 |8=>by show(tB y).size<=30;rw[jz8 hy];exact Nat.le_of_ble_eq_true (by kernel_rfl)
 |9=>by show(okN (folM y c)).size<=30;unfold folM;split<;>exact Nat.le_of_ble_eq_true (by kernel_rfl)
 |10=>szC hy
 |11=>Nat.le_of_ble_eq_true (by kernel_rfl)
 |12=>by show(tA y).size<=30;rw[jz9 hy];exact Nat.le_of_ble_eq_true (by kernel_rfl)
 |13=>by show(3:Nat)<=30;omega
 |_+14=>by show(1:Nat)<=30;omega
theorem jnh{f:Nat->ByteArray}(h:∀i,(f i).size<=30):∀i,(outT f i).size<=31*i
 |0=>by show(0:Nat)<=0;omega
 |i+1=>by
  have h1:=jnh h i
  have h2:=h i
  show(outT f i++(f i++⟨#[10]⟩)).size<=_
  simp only[ByteArray.size_append]
  have:(⟨#[10]⟩:ByteArray).size=1:=rfl
  omega
theorem j2o{y c:Nat}(hy:y<30)(hc:c<30)(p:Addr)(w:World)(hE:Jj w)(hp:jmv w p):Calls Tryz.prog 6 #[.string (lawB (lawA (yS y)) (yS y) (yS c))] w fun q w'=>q=.returned (.agg #[.string (outT (ouD y c) 15),.int .i64 0])/\Below w.heap.size w w':=
 jop (lawB (lawA (yS y)) (yS y) (yS c)) (lD y c) (bkD y c w) (tjD y c) (yjD y) (ouD y c) p w hE.z hp (by rw[jr7];omega) (jxs hy hc) (by show(1:Nat)<=15;omega) (by show(15:Nat)<=40;omega) (fun _ _ h=>h) (jcq y c w) rfl rfl (fun i hi=>⟨by have h1:=jnh (jwy (c:=c) hy) i;have h2:i<=15:=hi;omega,by have:=jwy (c:=c) hy i;omega⟩) (jui hy hc w hE)
end
section
open Go.RowKit
theorem jtu(a:Option Addr)(len cap:Nat)(p:Addr)(w:World)(h:j7c w a len)(hE:Jj w)(hp:jmv w p):Calls Tryz.prog 3 #[.slice a len cap] w fun e w'=>e=.returned (.bool true)/\Below w.heap.size w w':=by
 by_cases hl:1048576<(len:Int)
 ·go_enter Tryz.func3,Tryz.ntmps3
  go_wp2
  go_ret
  exact⟨rfl,Below.refl _ _⟩
 have HE:=hidQ (And.intro hE hp)
 clear hE hp
 go_enter Tryz.func3,Tryz.ntmps3
 go_wp2_with fail
 refine(jix 0 a len cap _ h (by omega) (by omega)).mono ?_
 rintro q w1 ⟨y,rfl,hy,rfl⟩
 have y1:IntKind.i64.wrap (1990+(y:Int))=1990+(y:Int):=wr64 _ (by omega) (by omega)
 go_wp2_with fail
 refine(jix 1 a len cap _ h (by omega) (by omega)).mono ?_
 rintro q w1 ⟨c,rfl,hc,rfl⟩
 have c1:IntKind.i64.wrap (1990+(c:Int))=1990+(c:Int):=wr64 _ (by omega) (by omega)
 obtain⟨w0,hw0⟩:∃x:World,x=w1:=⟨_,rfl⟩
 subst hw0
 have hYr:=fun W=>jnq y hy W
 have hCr:=fun W=>jnq c hc W
 have hD:∀W,Below w0.heap.size w0 W->Calls Tryz.prog 6 #[.string (lawB (lawA (yS y)) (yS y) (yS c))] W fun q w'=>q=.returned (.agg #[.string (wantB (ju8 (yS y)) (yS y) (ju7 (yS y) (if y<=c then s10 else s11)) (if y<=c then s0 else s1)),.int .i64 0])/\Below W.heap.size W w':=fun W hb=>(j2o hy hc p W (HE.out.1.of_below hb) (jab hb HE.out.2)).mono fun q w' hq=>by
  refine⟨?_,hq.2⟩
  by_cases hyc:y<=c
  ·rw[if_pos hyc,if_pos hyc, <- j7j hy hyc]
   exact hq.1
  ·rw[if_neg hyc,if_neg hyc, <- j7i hy hyc]
   exact hq.1
 have hYs:(yS y).size=4:=by kernel_rfl
 have hCs:(yS c).size=4:=by kernel_rfl
 generalize yS y=Y at *
 generalize yS c=C at *
 have b0:Hid (Below w0.heap.size w0 w0):=hidQ (Below.refl _ _)
 go_wp2_with fail
 refine(hYr _).mono ?_
 rintro q w1 ⟨rfl,hb⟩
 have b1:=hidQ (qtr b0.out hb)
 clear hb b0
 go_wp2_with fail
 refine(hYr _).mono ?_
 rintro q w2 ⟨rfl,hb⟩
 have b2:=hidQ (qtr b1.out hb)
 clear hb b1
 go_wp2_with fail
 refine(hYr _).mono ?_
 rintro q w3 ⟨rfl,hb⟩
 have b3:=hidQ (qtr b2.out hb)
 clear hb b2
 go_wp2_with fail
 refine(hYr _).mono ?_
 rintro q w4 ⟨rfl,hb⟩
 have b4:=hidQ (qtr b3.out hb)
 clear hb b3
 by_cases hyc:y<=c
 ·rw[if_pos hyc,if_pos hyc]at hD
  have g:¬(c:Int)<y:=by omega
  go_wp2_with fail
  refine(hCr _).mono ?_
  rintro q w5 ⟨rfl,hb⟩
  have b5:=hidQ (qtr b4.out hb)
  clear hb b4
  go_wp2_with fail
  refine(hYr _).mono ?_
  rintro q w6 ⟨rfl,hb⟩
  have b6:=hidQ (qtr b5.out hb)
  clear hb b5
  go_wp2_with fail
  refine(hYr _).mono ?_
  rintro q w7 ⟨rfl,hb⟩
  have b7:=hidQ (qtr b6.out hb)
  clear hb b6
  go_wp2_with fail
  refine(hYr _).mono ?_
  rintro q w8 ⟨rfl,hb⟩
  have b8:=hidQ (qtr b7.out hb)
  clear hb b7
  go_wp2_with fail
  refine(hYr _).mono ?_
  rintro q w9 ⟨rfl,hb⟩
  have b9:=hidQ (qtr b8.out hb)
  clear hb b8
  go_wp2_with fail
  refine(hYr _).mono ?_
  rintro q w10 ⟨rfl,hb⟩
  have b10:=hidQ (qtr b9.out hb)
  clear hb b9
  go_wp2_with fail
  simp only[ju8,wantB,ju7,s10,s0,cW1,cW2,cW3,cW4,cW5,cW6,cW7,cW8,cW9,cW10]at hD
  refine(hD _ b10.out).mono ?_
  rintro q w11 ⟨rfl,hb⟩
  have bE:=qtr b10.out hb
  clear hb hD hYr hCr HE
  go_wp2
  go_ret
  exact⟨rfl,bE.alloc bE.size _⟩
 ·rw[if_neg hyc,if_neg hyc]at hD
  have g:(c:Int)<y:=by omega
  go_wp2_with fail
  refine(hCr _).mono ?_
  rintro q w5 ⟨rfl,hb⟩
  have b5:=hidQ (qtr b4.out hb)
  clear hb b4
  go_wp2_with fail
  refine(hYr _).mono ?_
  rintro q w6 ⟨rfl,hb⟩
  have b6:=hidQ (qtr b5.out hb)
  clear hb b5
  go_wp2_with fail
  refine(hYr _).mono ?_
  rintro q w7 ⟨rfl,hb⟩
  have b7:=hidQ (qtr b6.out hb)
  clear hb b6
  go_wp2_with fail
  refine(hYr _).mono ?_
  rintro q w8 ⟨rfl,hb⟩
  have b8:=hidQ (qtr b7.out hb)
  clear hb b7
  go_wp2_with fail
  refine(hYr _).mono ?_
  rintro q w9 ⟨rfl,hb⟩
  have b9:=hidQ (qtr b8.out hb)
  clear hb b8
  go_wp2_with fail
  refine(hYr _).mono ?_
  rintro q w10 ⟨rfl,hb⟩
  have b10:=hidQ (qtr b9.out hb)
  clear hb b9
  go_wp2_with fail
  simp only[ju8,wantB,ju7,s11,s1,cW1,cW2,cW3,cW4,cW5,cW6,cW7,cW8,cW9,cW10]at hD
  refine(hD _ b10.out).mono ?_
  rintro q w11 ⟨rfl,hb⟩
  have bE:=qtr b10.out hb
  clear hb hD hYr hCr HE
  go_wp2
  go_ret
  exact⟨rfl,bE.alloc bE.size _⟩
end
end Go.Proofs.YtofdpfpdocpbpaaGreatDoor
