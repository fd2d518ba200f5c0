/- Packed. -/
import Derived.Test.YtofdpfpdocpbpaaGreatDoorBasePd
import Derived.Test.YtofdpfpdocpbpaaGreatDoorShelfK
import Derived.Lib.QuietBelow
import Derived.Deep.RegionHeld3
import Derived.Deep.Cut
import Derived.Deep.CutRange
import Derived.LoopN
import Derived.Laws.EntriesVeiled
import Derived.Lib.CutLaws
set_option maxHeartbeats 20000000
set_option linter.unusedSimpArgs false
namespace Go.Proofs.YtofdpfpdocpbpaaGreatDoor
section
open Go.RowKit
def wdNames:ByteArray:=⟨#[83,117,110,77,111,110,84,117,101,87,101,100,84,104,117,70,114,105,83,97,116]⟩
def spB(s t:ByteArray)(k:Nat):Bool:=(s.extract (k*3) ((k+1)*3)).toList==t.toList
def spG(s t:ByteArray):Nat->Nat->Int
 |_,0=> -1
 |k,n+1=>if spB s t k=true then k else spG s t (k+1) n
theorem jwe{s t:ByteArray}{k n:Nat}(h:spB s t k=true)(hn:0<n):spG s t k n=k:=by
 obtain⟨n,rfl⟩:∃m,n=m+1:=⟨n-1,by omega⟩
 simp only[spG];rw[if_pos h]
theorem jlv{s t:ByteArray}{k n:Nat}(h:spB s t k=false)(hn:0<n):spG s t k n=spG s t (k+1) (n-1):=by
 obtain⟨n,rfl⟩:∃m,n=m+1:=⟨n-1,by omega⟩
 simp only[spG];rw[h];rfl
theorem j71(s t:ByteArray)(k n:Nat):spG s t k n= -1\/(k<=spG s t k n/\spG s t k n<k+n):=by
 induction n generalizing k with
 |zero=>exact .inl rfl
 | succ n ih=>
  simp only[spG]
  split
  ·right;omega
  ·rcases ih (k+1)with h|h
   ·exact .inl h
   ·right;omega
def spN(s t:ByteArray)(m:Nat):Int:=if spG s t 0 m<0 then 0 else spG s t 0 m
def spO(s t:ByteArray)(m:Nat):Bool:=decide (0<=spG s t 0 m)
theorem jwd{s t:ByteArray}{m:Nat}{k:Int}(h:spG s t 0 m=k)(hk:0<=k):spN s t m=k/\spO s t m=true:=by
 unfold spN spO;rw[h,if_neg (by omega)];exact⟨rfl,decide_eq_true hk⟩
theorem jpm{s t:ByteArray}{m:Nat}(h:spG s t 0 m= -1):spN s t m=0/\spO s t m=false:=by
 unfold spN spO;rw[h];exact⟨rfl,rfl⟩
theorem jki(s:ByteArray)(k:Nat)(w:World)(h:(k+1)*3<=s.size)(hs:s.size<=1000):
  Calls Tryz.prog 296 #[.string s,.int .i64 k] w fun e w'=>e=.returned (.string (s.extract (k*3) ((k+1)*3)))/\w'=w:=by
 go_enter Tryz.func296,Tryz.ntmps296
 go_wp2
 go_ret
 exact⟨rfl,rfl⟩
theorem jei(s t:ByteArray)(m:Nat)(w:World)(hm:s.size=3*m)(hs:m<=300):
  Calls Tryz.prog 274 #[.string s,.string t] w fun e w'=>e=.returned (.tuple #[.int .i64 (spN s t m),.bool (spO s t m)])/\w'=w:=by
 have hd:(s.size:Int) / 3=m:=by omega
 go_enter Tryz.func274,Tryz.ntmps274
 go_wp2
 go_loop [10] (fun i=>∃k:Nat,k<=m/\i=.int .i64 k/\Hid (spG s t 0 m=spG s t k (m-k))) (fun i=>m-(intOf i).toNat)
 case atStart=>exact⟨0,by omega,rfl,rfl⟩
 case round=>
  obtain⟨k,hk,rfl,hg⟩:=hrel
  by_cases hlt:k<m
  ·have hN:=fun w=>jki s k w (by omega) (by omega)
   cases hb:spB s t k
   ·have HG:Hid (spG s t 0 m=spG s t (k+1) (m-(k+1))):=by
     have:=jlv hb (show 0<m-k by omega)
     simp only[Hid];rw[hg.out,this];congr 1
    unfold spB at hb
    generalize s.extract (k*3) ((k+1)*3)=x at *
    go_wp2_with (go_at_call 296;refine(hN _).mono ?_;rintro e w' ⟨rfl,rfl⟩)
    go_round
    case rel=>exact⟨k+1,by omega,by go_num,HG.out⟩
    case measure=>simp[intOf];omega
   ·have HG:Hid (spG s t 0 m=k):=by
     have:=jwe hb (show 0<m-k by omega)
     simp only[Hid];rw[hg.out,this]
    unfold spB at hb
    generalize s.extract (k*3) ((k+1)*3)=x at *
    go_wp2_with (go_at_call 296;refine(hN _).mono ?_;rintro e w' ⟨rfl,rfl⟩)
    go_ret2
    exact⟨ret_pair (jwd HG.out (by omega)).1.symm (jwd HG.out (by omega)).2.symm,rfl⟩
  ·have e:k=m:=by omega
   subst e
   have HG:Hid (spG s t 0 k= -1):=by have:=hg.out;simp only[Hid];rw[this];simp[spG]
   go_wp2
   go_ret2
   exact⟨ret_pair (jpm HG.out).1.symm (jpm HG.out).2.symm,rfl⟩
def wdN(t:ByteArray):Int:=spG wdNames t 0 7
theorem je1(t:ByteArray):wdN t= -1\/(0<=wdN t/\wdN t<7):=by
 have:=j71 wdNames t 0 7
 unfold wdN;omega
theorem jce(t:ByteArray)(w:World):
  Calls Tryz.prog 244 #[.string t] w fun e w'=>e=.returned (.int .i64 (wdN t))/\w'=w:=by
 have hP:=fun w=>jei wdNames t 7 w (by decide) (by omega)
 rcases je1 t with bd|bd
 ·have e:=jpm (s:=wdNames) (t:=t) (m:=7) bd
  rw[e.1,e.2]at hP
  rw[bd]
  unfold wdNames at hP
  clear bd e
  go_enter Tryz.func244,Tryz.ntmps244
  go_wp2_with (go_at_call 274;refine(hP _).mono ?_;rintro e w' ⟨rfl,rfl⟩)
  go_ret
  exact⟨rfl,rfl⟩
 ·have e:=jwd (s:=wdNames) (t:=t) (m:=7) (k:=wdN t) rfl bd.1
  rw[e.1,e.2]at hP
  unfold wdNames at hP
  generalize wdN t=r at *
  clear bd e
  go_enter Tryz.func244,Tryz.ntmps244
  go_wp2_with (go_at_call 274;refine(hP _).mono ?_;rintro e w' ⟨rfl,rfl⟩)
  go_ret
  exact⟨rfl,rfl⟩
end
section
open Go.RowKit
def jf8(v d:Int):Int:=if v= -1\/d= -1000000 then -1000000 else d+(v-(d+719163)%7+7)%7
def jdh(v d:Int):Int:=if v= -1\/d= -1000000 then -1000000 else d-((d+719163)%7-v+7)%7
theorem jhn(v d:Int)(w:World)(hv:v= -1\/(0<=v/\v<7))(hd:d= -1000000\/(-719162<=d/\d<=2932896)):
  Calls Tryz.prog 246 #[.int .i64 v,.int .i64 d] w fun e w'=>e=.returned (.int .i64 (jf8 v d))/\w'=w:=by
 unfold jf8
 by_cases h1:v= -1
 ·subst h1
  rw[if_pos (.inl rfl)]
  go_enter Tryz.func246,Tryz.ntmps246
  go_wp2
  go_ret
  exact⟨rfl,rfl⟩
 by_cases h2:d= -1000000
 ·subst h2
  have g1:(v== -1)=false:=by simpa using h1
  rw[if_pos (.inr rfl)]
  go_enter Tryz.func246,Tryz.ntmps246
  go_wp2
  go_ret
  exact⟨rfl,rfl⟩
 ·rw[if_neg (by omega)]
  have g1:(v== -1)=false:=by simpa using h1
  have g2:(d== -1000000)=false:=by simpa using h2
  have hW:=fun w=>jhh d w
  rw[ju6 (by omega) (by omega)]at hW
  have hr:0<=(d+719163)%7/\(d+719163)%7<7:=by omega
  have hv':0<=v/\v<7:=by omega
  have hd': -719162<=d/\d<=2932896:=by omega
  clear hv hd h1 h2
  generalize (d+719163)%7=r at *
  go_enter Tryz.func246,Tryz.ntmps246
  go_wp2_with (go_at_call 273;refine(hW _).mono ?_;rintro e w' ⟨rfl,rfl⟩)
  go_ret
  exact⟨ret_int (by omega),rfl⟩
theorem jd9(v d:Int)(w:World)(hv:v= -1\/(0<=v/\v<7))(hd:d= -1000000\/(-719162<=d/\d<=2932896)):
  Calls Tryz.prog 243 #[.int .i64 v,.int .i64 d] w fun e w'=>e=.returned (.int .i64 (jdh v d))/\w'=w:=by
 unfold jdh
 by_cases h1:v= -1
 ·subst h1
  rw[if_pos (.inl rfl)]
  go_enter Tryz.func243,Tryz.ntmps243
  go_wp2
  go_ret
  exact⟨rfl,rfl⟩
 by_cases h2:d= -1000000
 ·subst h2
  have g1:(v== -1)=false:=by simpa using h1
  rw[if_pos (.inr rfl)]
  go_enter Tryz.func243,Tryz.ntmps243
  go_wp2
  go_ret
  exact⟨rfl,rfl⟩
 ·rw[if_neg (by omega)]
  have g1:(v== -1)=false:=by simpa using h1
  have g2:(d== -1000000)=false:=by simpa using h2
  have hW:=fun w=>jhh d w
  rw[ju6 (by omega) (by omega)]at hW
  have hr:0<=(d+719163)%7/\(d+719163)%7<7:=by omega
  have hv':0<=v/\v<7:=by omega
  have hd': -719162<=d/\d<=2932896:=by omega
  clear hv hd h1 h2
  generalize (d+719163)%7=r at *
  go_enter Tryz.func243,Tryz.ntmps243
  go_wp2_with (go_at_call 273;refine(hW _).mono ?_;rintro e w' ⟨rfl,rfl⟩)
  go_ret
  exact⟨ret_int (by omega),rfl⟩
def nbB(y m:Int)(t:ByteArray):Bool:=decide (t.size<=2)&&(digs t&&vldB y m (drN t))
def nbV(y m:Int)(t:ByteArray):Int:=if nbB y m t=true then num y m (drN t)else -1000000
theorem jrt(y m:Int)(t:ByteArray):nbV y m t= -1000000\/(-719162<=nbV y m t/\nbV y m t<=2932896):=by
 unfold nbV
 split
 ·rename_i h
  unfold nbB at h
  simp only[Bool.and_eq_true]at h
  exact .inr (jk8 h.2.2)
 ·exact .inl rfl
theorem jd3(y m:Int)(s t:ByteArray)(w:World)(hT:Tab w)(hz:t.size<=maxLen):
  Calls Tryz.prog 241 #[.agg #[.int .i64 y,.int .i64 m,.string s],.string t] w fun e w'=>e=.returned (.int .i64 (nbV y m t))/\Below w.heap.size w w':=by
 unfold maxLen at hz
 unfold nbV nbB
 by_cases h2:2<t.size
 ·rw[if_neg (by simp;omega)]
  go_enter Tryz.func241,Tryz.ntmps241
  go_wp2
  go_ret
  exact⟨rfl,qal _ _⟩
 have hD:=fun w=>jap t w (by omega)
 have hR:=fun w (h:Tab w)=>jdl y m (drN t) w h
 rw[decide_eq_true (show t.size<=2 by omega)]
 cases hd:digs t
 ·rw[hd]at hD
  simp only[Bool.false_and,Bool.and_false,Bool.false_eq_true,if_false]
  clear hd
  generalize drN t=k at *
  go_enter Tryz.func241,Tryz.ntmps241
  go_wp2_with (go_at_call 29;refine(hD _).mono ?_;rintro e w' ⟨rfl,rfl⟩)
  go_ret
  exact⟨rfl,(qal _ _).alloc (by simp) _⟩
 ·rw[hd]at hD
  simp only[Bool.true_and]
  clear hd
  cases hv:vldB y m (drN t)
  ·rw[hv]at hR
   clear hv
   generalize drN t=k at *
   simp only[Bool.false_eq_true,if_false]
   go_enter Tryz.func241,Tryz.ntmps241
   go_wp2_with fail
   refine(hD _).mono ?_
   rintro e w1 ⟨rfl,rfl⟩
   go_wp2_with fail
   refine(hR _ ((hT.alloc _).alloc _)).mono ?_
   rintro e w2 ⟨rfl,hb⟩
   go_wp2
   go_ret
   exact⟨rfl,((qal _ _).alloc (by simp) _).trans (hb.mono (by simp;omega))⟩
  ·have hX:=fun w (h:Tab w)=>jdk y m (drN t) w h hv
   rw[hv]at hR
   clear hv
   generalize num y m (drN t)=q at *
   generalize drN t=k at *
   simp only[if_true]
   go_enter Tryz.func241,Tryz.ntmps241
   go_wp2_with fail
   refine(hD _).mono ?_
   rintro e w1 ⟨rfl,rfl⟩
   go_wp2_with fail
   refine(hR _ ((hT.alloc _).alloc _)).mono ?_
   rintro e w2 ⟨rfl,hb⟩
   obtain⟨hc,hf⟩:=jal hb
   have hB:=((qal w _).alloc (by simp) _).trans (hb.mono (by simp;omega))
   have hT2:=hT.of_below hB
   go_wp2_with fail
   refine(hX _ hT2).mono ?_
   rintro e w3 ⟨rfl,hb3⟩
   go_wp2
   go_ret
   exact⟨rfl,(qtr hB hb3)⟩
def twoN(t:ByteArray):Int:=if t.size<=2 then ldN t else -1
end
section
open Go.RowKit Go.Sort
theorem rgS{f:FuncId}{args:Array Value}{W:World}{v:Value}(h:∀w,Calls Tryz.prog f args w fun e w'=>e=.returned v/\w'=w):
  ∀dd os,Calls Tryz.prog f args (grow (redrawn W dd) os) fun e w''=>e=.returned v/\∃p:Regrown,w''=grow (redrawn W p.d) p.os:=
 fun dd os=>Calls.regrown_of ((h _).mono fun e w' ⟨he,hw⟩=>⟨he,by subst hw;exact Below.refl _ _⟩)
theorem rgA{f:FuncId}{args:Array Value}{W:World}{v:Value}(hT:Tab W)(h:∀w,Tab w->Calls Tryz.prog f args w fun e w'=>e=.returned v/\Below w.heap.size w w'):
  ∀dd os,Calls Tryz.prog f args (grow (redrawn W dd) os) fun e w''=>e=.returned v/\∃p:Regrown,w''=grow (redrawn W p.d) p.os:=
 fun dd os=>Calls.regrown_of (h _ (hT.of_below (below_regrown W dd os)))
def Mx(w:World):Prop:=∃m:Int,w.cell? ⟨2,0,none⟩=some (.int .i64 m)
theorem Mx.of_below{w w':World}(h:Mx w)(hb:Below w.heap.size w w'):Mx w':=by
 obtain⟨m,hm⟩:=h
 exact⟨m,by rw[(jal hb).1 _ _ (qbl hm)];exact hm⟩
theorem Mx.alloc{w:World}(h:Mx w)(o:Obj):Mx (w.alloc o):=h.of_below (qal _ o)
theorem jjm(y m:Int)(s:ByteArray)(w:World)(hT:Tab w)(hz:s.size<=maxLen):
  Calls Tryz.prog 196 #[.agg #[.int .i64 y,.int .i64 m,.string s]] w fun e w'=>e=.returned (.int .i64 (nbV y m s))/\Below w.heap.size w w':=by
 have hN:=fun w (h:Tab w)=>jd3 y m s s w h hz
 generalize nbV y m s=k at *
 go_enter Tryz.func196,Tryz.ntmps196
 go_wp2_with fail
 refine(hN _ (hT.alloc _)).mono ?_
 rintro e w1 ⟨rfl,hb⟩
 go_wp2
 go_ret
 exact⟨rfl,(qal _ _).trans (hb.mono (by simp))⟩
def cutA(s:ByteArray)(a b:UInt8):ByteArray:=⟨(Lib.cut s.data.toList [a,b]).1.toArray⟩
def cutZ(s:ByteArray)(a b:UInt8):ByteArray:=⟨(Lib.cut s.data.toList [a,b]).2.1.toArray⟩
def cutB(s:ByteArray)(a b:UInt8):Bool:=(Lib.cut s.data.toList [a,b]).2.2
def jgb(y m:Int)(s:ByteArray):Int:=if cutB s 62 61=true then jf8 (wdN (cutA s 62 61)) (nbV y m (cutZ s 62 61))else -1000000
def jka(y m:Int)(s:ByteArray):Int:=if cutB s 60 61=true then jdh (wdN (cutA s 60 61)) (nbV y m (cutZ s 60 61))else -1000000
theorem jy4(s:ByteArray)(a b:UInt8):(cutZ s a b).size<=s.size:=by
 unfold cutZ Lib.cut
 simp only[ByteArray.size]
 split<;>simp
theorem jse(s:ByteArray)(a b:UInt8)(w:World)(hM:Mx w)(hs:s.size<4294967281):
  Calls Tryz.prog 245 #[.string s,.string ⟨#[a,b]⟩] w fun e w'=>e=.returned (.tuple #[.string (cutA s a b),.string (cutZ s a b),.bool (cutB s a b)])/\∃n,w'=w.drewN n:=by
 obtain⟨m,hm⟩:=hM
 exact Tryz.strings_Cut s ⟨#[a,b]⟩ m w hs hm
theorem jko(y m:Int)(s:ByteArray)(w:World)(hT:Tab w)(hM:Mx w)(hz:s.size<=1048576):
  Calls Tryz.prog 198 #[.agg #[.int .i64 y,.int .i64 m,.string s]] w fun e w'=>e=.returned (.int .i64 (jgb y m s))/\Below w.heap.size w w':=by
 have hC:=fun w (h:Mx w)=>jse s 62 61 w h (by omega)
 have hN:=fun w (h:Tab w)=>jd3 y m s (cutZ s 62 61) w h (by have:=jy4 s 62 61;unfold maxLen;omega)
 have hD:=fun w=>jce (cutA s 62 61) w
 have hF:=fun w=>jhn (wdN (cutA s 62 61)) (nbV y m (cutZ s 62 61)) w (je1 _) (jrt _ _ _)
 unfold jgb
 generalize wdN (cutA s 62 61)=v at *
 generalize nbV y m (cutZ s 62 61)=k at *
 generalize cutA s 62 61=sa at *
 generalize cutZ s 62 61=sz at *
 cases hb:cutB s 62 61
 ·rw[hb]at hC
  clear hb
  simp only[Bool.false_eq_true,if_false]
  go_enter Tryz.func198,Tryz.ntmps198
  go_wp2_with fail
  refine(hC _ (hM.alloc _)).mono ?_
  rintro e w1 ⟨rfl,n,rfl⟩
  go_wp2
  go_ret
  exact⟨rfl,jgf _ _ _⟩
 ·rw[hb]at hC
  clear hb
  simp only[if_true]
  generalize jf8 v k=r at *
  go_enter Tryz.func198,Tryz.ntmps198
  go_wp2_with fail
  refine(hC _ (hM.alloc _)).mono ?_
  rintro e w1 ⟨rfl,n,rfl⟩
  go_wp2_with fail
  have hBW:=jgf w (.cells #[.int .i64 y,.int .i64 m,.string s] 243) n
  have hTW:=hT.of_below hBW
  have k0:=cell_regrown (w:=(w.alloc (.cells #[.int .i64 y,.int .i64 m,.string s] 243)).drewN n) (a:=⟨w.heap.size,0,none⟩) (v:=.int .i64 y) (by simp)
  have k1:=cell_regrown (w:=(w.alloc (.cells #[.int .i64 y,.int .i64 m,.string s] 243)).drewN n) (a:=⟨w.heap.size,1,none⟩) (v:=.int .i64 m) (by simp)
  have k2:=cell_regrown (w:=(w.alloc (.cells #[.int .i64 y,.int .i64 m,.string s] 243)).drewN n) (a:=⟨w.heap.size,2,none⟩) (v:=.string s) (by simp)
  generalize (w.alloc (.cells #[.int .i64 y,.int .i64 m,.string s] 243)).drewN n=W at *
  have cD:=rgS (W:=W) hD
  have cF:=rgS (W:=W) hF
  have cN:=rgA hTW hN
  refine wp_region_quiet_below (by kernel_rfl) (by kernel_rfl) ?_
  repeat (quiet_step (first|(go_at_call 244;exact cD _ _)|(go_at_call 241;exact cN _ _)|(go_at_call 246;exact cF _ _)))
  refine wpQuiet_nil ?_
  intro _ hw'
  obtain⟨⟨dq,osq⟩,hw''⟩:=hw'
  subst hw''
  go_wp2
  go_ret
  exact⟨rfl,hBW.trans ((below_regrown _ dq osq).mono hBW.size)⟩
end
section
open Go.RowKit Go.Sort
theorem ju0(w:World)(a b:Obj):Below w.heap.size w ((w.alloc a).alloc b).drew:=
 below_drewN ((qal _ a).alloc (by simp) b) 1
theorem jl9(y m:Int)(s:ByteArray)(w:World)(hT:Tab w)(hM:Mx w)(hz:s.size<=1048576):
  Calls Tryz.prog 199 #[.agg #[.int .i64 y,.int .i64 m,.string s]] w fun e w'=>e=.returned (.int .i64 (jka y m s))/\Below w.heap.size w w':=by
 have hC:=fun w (h:Mx w)=>jse s 60 61 w h (by omega)
 have hN:=fun w (h:Tab w)=>jd3 y m s (cutZ s 60 61) w h (by have:=jy4 s 60 61;unfold maxLen;omega)
 have hD:=fun w=>jce (cutA s 60 61) w
 have hF:=fun w=>jd9 (wdN (cutA s 60 61)) (nbV y m (cutZ s 60 61)) w (je1 _) (jrt _ _ _)
 unfold jka
 generalize wdN (cutA s 60 61)=v at *
 generalize nbV y m (cutZ s 60 61)=k at *
 generalize cutA s 60 61=sa at *
 generalize cutZ s 60 61=sz at *
 cases hb:cutB s 60 61
 ·rw[hb]at hC
  clear hb
  simp only[Bool.false_eq_true,if_false]
  go_enter Tryz.func199,Tryz.ntmps199
  go_wp2_with fail
  refine(hC _ (hM.alloc _)).mono ?_
  rintro e w1 ⟨rfl,n,rfl⟩
  go_wp2
  go_ret
  exact⟨rfl,jgf _ _ _⟩
 ·rw[hb]at hC
  clear hb
  simp only[if_true]
  generalize jdh v k=r at *
  go_enter Tryz.func199,Tryz.ntmps199
  go_wp2_with fail
  refine(hC _ (hM.alloc _)).mono ?_
  rintro e w1 ⟨rfl,n,rfl⟩
  go_wp2_with fail
  have hBW:=jgf w (.cells #[.int .i64 y,.int .i64 m,.string s] 243) n
  have hTW:=hT.of_below hBW
  have k0:=cell_regrown (w:=(w.alloc (.cells #[.int .i64 y,.int .i64 m,.string s] 243)).drewN n) (a:=⟨w.heap.size,0,none⟩) (v:=.int .i64 y) (by simp)
  have k1:=cell_regrown (w:=(w.alloc (.cells #[.int .i64 y,.int .i64 m,.string s] 243)).drewN n) (a:=⟨w.heap.size,1,none⟩) (v:=.int .i64 m) (by simp)
  have k2:=cell_regrown (w:=(w.alloc (.cells #[.int .i64 y,.int .i64 m,.string s] 243)).drewN n) (a:=⟨w.heap.size,2,none⟩) (v:=.string s) (by simp)
  generalize (w.alloc (.cells #[.int .i64 y,.int .i64 m,.string s] 243)).drewN n=W at *
  have cD:=rgS (W:=W) hD
  have cF:=rgS (W:=W) hF
  have cN:=rgA hTW hN
  refine wp_region_quiet_below (by kernel_rfl) (by kernel_rfl) ?_
  repeat (quiet_step (first|(go_at_call 244;exact cD _ _)|(go_at_call 241;exact cN _ _)|(go_at_call 243;exact cF _ _)))
  refine wpQuiet_nil ?_
  intro _ hw'
  obtain⟨⟨dq,osq⟩,hw''⟩:=hw'
  subst hw''
  go_wp2
  go_ret
  exact⟨rfl,hBW.trans ((below_regrown _ dq osq).mono hBW.size)⟩
def laR(s:ByteArray):ByteArray:=⟨(Lib.trimPrefix s.data.toList [108,97,115,116]).toArray⟩
def laB(s:ByteArray):Bool:=Lib.hasPrefix s.data.toList [108,97,115,116]
def lomV(y m:Int)(s:ByteArray):Int:=if laB s=true then jdh (wdN (laR s)) (num y m (Cal.dim y m))else -1000000
theorem jep{y m:Int}(h:ymB y m=true):vldB y m (Cal.dim y m)=true:=by
 have ⟨a,b,c,d⟩:=jpd h
 have:=Cal.dim_bd y m
 exact jvi ⟨a,b,c,d,by omega,by omega⟩
theorem jhu(y m:Int)(s:ByteArray)(w:World)(hT:Tab w)(hy:ymB y m=true):
  Calls Tryz.prog 197 #[.agg #[.int .i64 y,.int .i64 m,.string s]] w fun e w'=>e=.returned (.int .i64 (lomV y m s))/\Below w.heap.size w w':=by
 have hC:=fun w=>Tryz.strings_CutPrefix s ⟨#[108,97,115,116]⟩ w
 have er:(⟨(Lib.trimPrefix s.data.toList (⟨#[108,97,115,116]⟩:ByteArray).data.toList).toArray⟩:ByteArray)=laR s:=rfl
 have eb:Lib.hasPrefix s.data.toList (⟨#[108,97,115,116]⟩:ByteArray).data.toList=laB s:=rfl
 rw[er,eb]at hC
 have ⟨y1,y2,m1,m2⟩:=jpd hy
 have hM:=fun w (h:Tab w)=>ja0 y m w h y1 y2 m1 m2
 have hX:=fun w (h:Tab w)=>jdk y m (Cal.dim y m) w h (jep hy)
 have hD:=fun w=>jce (laR s) w
 have nb:=jk8 (jep hy)
 have hF:=fun w=>jd9 (wdN (laR s)) (num y m (Cal.dim y m)) w (je1 _) (.inr nb)
 unfold lomV
 clear er eb hy nb y1 y2 m1 m2
 generalize jdh (wdN (laR s)) (num y m (Cal.dim y m))=r at *
 generalize wdN (laR s)=v at *
 generalize num y m (Cal.dim y m)=k at *
 generalize Cal.dim y m=d at *
 generalize laR s=sr at *
 cases hb:laB s
 ·rw[hb]at hC
  clear hb
  simp only[Bool.false_eq_true,if_false]
  go_enter Tryz.func197,Tryz.ntmps197
  go_wp2_with (go_at_call 242;refine(hC _).mono ?_;rintro e w' ⟨rfl,rfl⟩)
  go_ret
  exact⟨rfl,qal _ _⟩
 ·rw[hb]at hC
  clear hb
  simp only[if_true]
  go_enter Tryz.func197,Tryz.ntmps197
  go_wp2_with fail
  refine(hC _).mono ?_
  rintro e w1 ⟨rfl,rfl⟩
  go_upto_region 4 with fail
  go_cut [5]from 14 to 23 (fun x wx=>x=.pointer (some ⟨w.heap.size+1,0,none⟩)/\wx=((w.alloc (.cells #[.int .i64 y,.int .i64 m,.string s] 243)).alloc (.cells #[.int .i64 y,.int .i64 m,.int .i64 d] 274)).drew)
  case first=>
   go_region_held3 (fun w'=>w'.cell? ⟨w.heap.size,0,none⟩=some (.int .i64 y)/\w'.cell? ⟨w.heap.size,1,none⟩=some (.int .i64 m)) (go_keep) ((go_at_call 195;refine(hM _ ?_).mono ?_;(first|exact hT.alloc _|exact(hT.alloc _).alloc _);rintro e w' ⟨rfl,rfl⟩))
   all_goals
    go_wp2
    go_meet
    exact⟨rfl,rfl⟩
  case rest=>
   obtain⟨rfl,rfl⟩:=hcut
   go_wp2_with fail
   have hBW:=ju0 w (.cells #[.int .i64 y,.int .i64 m,.string s] 243) (.cells #[.int .i64 y,.int .i64 m,.int .i64 d] 274)
   have hTW:=hT.of_below hBW
   have k0:=cell_regrown (w:=((w.alloc (.cells #[.int .i64 y,.int .i64 m,.string s] 243)).alloc (.cells #[.int .i64 y,.int .i64 m,.int .i64 d] 274)).drew) (a:=⟨w.heap.size+1,0,none⟩) (v:=.int .i64 y) (by simp)
   have k1:=cell_regrown (w:=((w.alloc (.cells #[.int .i64 y,.int .i64 m,.string s] 243)).alloc (.cells #[.int .i64 y,.int .i64 m,.int .i64 d] 274)).drew) (a:=⟨w.heap.size+1,1,none⟩) (v:=.int .i64 m) (by simp)
   have k2:=cell_regrown (w:=((w.alloc (.cells #[.int .i64 y,.int .i64 m,.string s] 243)).alloc (.cells #[.int .i64 y,.int .i64 m,.int .i64 d] 274)).drew) (a:=⟨w.heap.size+1,2,none⟩) (v:=.int .i64 d) (by simp)
   generalize ((w.alloc (.cells #[.int .i64 y,.int .i64 m,.string s] 243)).alloc (.cells #[.int .i64 y,.int .i64 m,.int .i64 d] 274)).drew=W at *
   have cD:=rgS (W:=W) hD
   have cF:=rgS (W:=W) hF
   have cX:=rgA hTW hX
   refine wp_region_quiet_below (by kernel_rfl) (by kernel_rfl) ?_
   repeat (quiet_step (first|(go_at_call 244;exact cD _ _)|(go_at_call 224;exact cX _ _)|(go_at_call 243;exact cF _ _)))
   refine wpQuiet_nil ?_
   intro _ hw'
   obtain⟨⟨dq,osq⟩,hw''⟩:=hw'
   subst hw''
   go_wp2
   go_ret
   exact⟨rfl,hBW.trans ((below_regrown _ dq osq).mono hBW.size)⟩
end
section
open Go.RowKit
def orV(a b c d:Int):Int:=if a= -1000000 then(if b= -1000000 then(if c= -1000000 then d else c)else b)else a
def onV(y m:Int)(s:ByteArray):Int:=orV (nbV y m s) (lomV y m s) (jgb y m s) (jka y m s)
theorem jn0(y m:Int)(s:ByteArray)(w:World)(hT:Tab w)(hM:Mx w)(hy:ymB y m=true)(hz:s.size<=1048576):
  Calls Tryz.prog 156 #[.agg #[.int .i64 y,.int .i64 m,.string s]] w fun e w'=>e=.returned (.int .i64 (onV y m s))/\Below w.heap.size w w':=by
 have ⟨y1,y2,m1,m2⟩:=jpd hy
 have hD:=fun w (h:Tab w)=>ja0 y m w h y1 y2 m1 m2
 have dm:=Cal.dim_bd y m
 have h0:=fun w (h:Tab w)=>jjm y m s w h (by unfold maxLen;omega)
 have h1:=fun w (h:Tab w)=>jhu y m s w h hy
 have h2:=fun w (h:Tab w) (k:Mx w)=>jko y m s w h k hz
 have h3:=fun w (h:Tab w) (k:Mx w)=>jl9 y m s w h k hz
 have i0:∀(w:World) (x0 x1 x2 x3:Value),(Instr.index 286 (.agg #[x0,x1,x2,x3]) (.int .i64 0)).run Tryz.prog w=.ok x0 w:=fun _ _ _ _ _=>by kernel_rfl
 have i1:∀(w:World) (x0 x1 x2 x3:Value),(Instr.index 286 (.agg #[x0,x1,x2,x3]) (.int .i64 1)).run Tryz.prog w=.ok x1 w:=fun _ _ _ _ _=>by kernel_rfl
 have i2:∀(w:World) (x0 x1 x2 x3:Value),(Instr.index 286 (.agg #[x0,x1,x2,x3]) (.int .i64 2)).run Tryz.prog w=.ok x2 w:=fun _ _ _ _ _=>by kernel_rfl
 have i3:∀(w:World) (x0 x1 x2 x3:Value),(Instr.index 286 (.agg #[x0,x1,x2,x3]) (.int .i64 3)).run Tryz.prog w=.ok x3 w:=fun _ _ _ _ _=>by kernel_rfl
 unfold onV
 generalize nbV y m s=d0 at *
 generalize lomV y m s=d1 at *
 generalize jgb y m s=d2 at *
 generalize jka y m s=d3 at *
 generalize Cal.dim y m=dd at *
 have hne:(dd==0)=false:=by simp;omega
 clear y1 y2 m1 m2 hy
 go_enter Tryz.func156,Tryz.ntmps156
 go_wp2_with fail
 refine(hD _ (hT.alloc _)).mono ?_
 rintro e w' ⟨rfl,rfl⟩
 go_wp2_with fail
 refine wp_loop_rounds 5 ?_
 rw[rounds_succ]
 go_wp2_with fail
 refine(h0 _ ((hT.alloc _).alloc _)).mono ?_
 rintro e w1 ⟨rfl,hb1⟩
 have hB1:=((qal w _).alloc (by simp) _).trans (hb1.mono (by simp;omega))
 obtain⟨hc1,_⟩:=jal hb1
 by_cases e0:d0= -1000000
 case neg=>
  have g0:(d0 != -1000000)=true:=by simpa using e0
  go_wp2
  go_ret
  exact⟨ret_int (by simp[orV,e0]),hB1⟩
 subst e0
 have hT1:=hT.of_below hB1
 have hM1:=hM.of_below hB1
 have q0:w1.cell? ⟨w.heap.size,0,none⟩=some (.int .i64 y):=by rw[hc1 _ _ (by simp;omega)];simp
 have q1:w1.cell? ⟨w.heap.size,1,none⟩=some (.int .i64 m):=by rw[hc1 _ _ (by simp;omega)];simp
 have q2:w1.cell? ⟨w.heap.size,2,none⟩=some (.string s):=by rw[hc1 _ _ (by simp;omega)];simp
 have hlt1:w.heap.size<w1.heap.size:=qbl q0
 clear hb1 hc1
 go_wp2_with fail
 rw[rounds_succ]
 go_wp2_with fail
 refine(h1 _ hT1).mono ?_
 rintro e w2 ⟨rfl,hb2⟩
 have hB2:=qtr hB1 hb2
 obtain⟨hc2,_⟩:=jal hb2
 by_cases e1:d1= -1000000
 case neg=>
  have g0:(d1 != -1000000)=true:=by simpa using e1
  go_wp2
  go_ret
  exact⟨ret_int (by simp[orV,e1]),hB2⟩
 subst e1
 have hT2:=hT.of_below hB2
 have hM2:=hM.of_below hB2
 have p0:w2.cell? ⟨w.heap.size,0,none⟩=some (.int .i64 y):=by rw[hc2 _ _ hlt1];exact q0
 have p1:w2.cell? ⟨w.heap.size,1,none⟩=some (.int .i64 m):=by rw[hc2 _ _ hlt1];exact q1
 have p2:w2.cell? ⟨w.heap.size,2,none⟩=some (.string s):=by rw[hc2 _ _ hlt1];exact q2
 have hlt2:w.heap.size<w2.heap.size:=qbl p0
 clear hb2 hc2 q0 q1 q2
 go_wp2_with fail
 rw[rounds_succ]
 go_wp2_with fail
 refine(h2 _ hT2 hM2).mono ?_
 rintro e w3 ⟨rfl,hb3⟩
 have hB3:=qtr hB2 hb3
 obtain⟨hc3,_⟩:=jal hb3
 by_cases e2:d2= -1000000
 case neg=>
  have g0:(d2 != -1000000)=true:=by simpa using e2
  go_wp2
  go_ret
  exact⟨ret_int (by simp[orV,e2]),hB3⟩
 subst e2
 have hT3:=hT.of_below hB3
 have hM3:=hM.of_below hB3
 have q0:w3.cell? ⟨w.heap.size,0,none⟩=some (.int .i64 y):=by rw[hc3 _ _ hlt2];exact p0
 have q1:w3.cell? ⟨w.heap.size,1,none⟩=some (.int .i64 m):=by rw[hc3 _ _ hlt2];exact p1
 have q2:w3.cell? ⟨w.heap.size,2,none⟩=some (.string s):=by rw[hc3 _ _ hlt2];exact p2
 clear hb3 hc3 p0 p1 p2
 go_wp2_with fail
 rw[rounds_succ]
 go_wp2_with fail
 refine(h3 _ hT3 hM3).mono ?_
 rintro e w4 ⟨rfl,hb4⟩
 have hB4:=qtr hB3 hb4
 by_cases e3:d3= -1000000
 case neg=>
  have g0:(d3 != -1000000)=true:=by simpa using e3
  go_wp2
  go_ret
  exact⟨ret_int (by simp[orV]),hB4⟩
 subst e3
 go_wp2_with fail
 rw[rounds_succ]
 go_wp2
 go_ret
 exact⟨ret_int (by simp[orV]),hB4⟩
theorem jn1(y m:Int)(s:ByteArray)(w:World)(hT:Tab w)(hy:ymB y m=false):
  Calls Tryz.prog 156 #[.agg #[.int .i64 y,.int .i64 m,.string s]] w fun e w'=>e=.returned (.int .i64 (-1000000))/\Below w.heap.size w w':=by
 have hD:=fun w (h:Tab w)=>je9 y m w h
 rw[jl2 hy]at hD
 go_enter Tryz.func156,Tryz.ntmps156
 go_wp2_with fail
 refine(hD _ (hT.alloc _)).mono ?_
 rintro e w' ⟨rfl,rfl⟩
 go_wp2
 go_ret
 exact⟨rfl,qal _ _⟩
def jbp(y m:Int)(s:ByteArray):Int:=if ymB y m=true then onV y m s else -1000000
theorem jn2(y m:Int)(s:ByteArray)(w:World)(hT:Tab w)(hM:Mx w)(hz:s.size<=1048576):
  Calls Tryz.prog 156 #[.agg #[.int .i64 y,.int .i64 m,.string s]] w fun e w'=>e=.returned (.int .i64 (jbp y m s))/\Below w.heap.size w w':=by
 unfold jbp
 cases hy:ymB y m
 ·exact jn1 y m s w hT hy
 ·exact jn0 y m s w hT hM hy hz
theorem jt4(y m:Int)(s:ByteArray)(w:World)(hT:Tab w)(hM:Mx w)(hz:s.size<=8000):
  Calls Tryz.prog 297 #[.int .i64 y,.int .i64 m,.string s] w fun e w'=>e=.returned (.int .i64 (jbp y m s))/\Below w.heap.size w w':=by
 have hX:=fun w (h:Tab w) (k:Mx w)=>jn2 y m s w h k (by omega)
 generalize jbp y m s=r at *
 go_enter Tryz.func297,Tryz.ntmps297
 go_wp2_with fail
 refine(hX _ hT hM).mono ?_
 rintro e w1 ⟨rfl,hb⟩
 go_wp2
 go_ret
 exact⟨rfl,hb⟩
end
section
open Go.RowKit
def aB(s:ByteArray):Bool:=decide (s.size=7)&&((s.extract 0 4).toList==[108,97,115,116])
def bB(c:UInt8)(s:ByteArray):Bool:=decide (5<s.size)&&((s.extract 3 5).toList==[c,61])
def moV(y m:Int)(s:ByteArray):Int:=if aB s=true/\wdN (s.extract 4 7)≠ -1 then jdh (wdN (s.extract 4 7)) (num y m (Cal.dim y m))else if bB 62 s=true then jf8 (wdN (s.extract 0 3)) (nbV y m (s.extract 5 s.size))else if bB 60 s=true then jdh (wdN (s.extract 0 3)) (nbV y m (s.extract 5 s.size))else nbV y m s
theorem jw2(y m k:Int):num y m k=num y m 1+k-1:=by unfold num;omega
theorem j8e{y m:Int}(h:ymB y m=true)(t:ByteArray):nbV y m t=if 1<=twoN t/\twoN t<=Cal.dim y m then num y m 1+twoN t-1 else -1000000:=by
 have ⟨a,b,c,d⟩:=jpd h
 unfold nbV nbB twoN
 by_cases h2:t.size<=2
 ·rw[if_pos h2,decide_eq_true h2]
  cases hd:digs t
  ·rw[ldN_f hd];simp
  ·rw[ldN_t hd,j86 hd, <- jw2]
   cases hv:vldB y m (jey t t.size)
   ·rw[if_neg (by simp),if_neg]
    intro hn
    exact vld_f hv ⟨a,b,c,d,hn.1,hn.2⟩
   ·have:=jvg hv
    rw[if_pos (by simp),if_pos ⟨this.2.2.2.2.1,this.2.2.2.2.2⟩]
 ·rw[if_neg h2];simp[h2]
theorem jr8(y m:Int):num y m (Cal.dim y m)=num y m 1+Cal.dim y m-1:=jw2 _ _ _
theorem jet{s:ByteArray}{a b:Nat}{l:List UInt8}(hb:b<=s.size)(h:(s.extract a b).toList=l){i:Nat}{c:UInt8}(hi:l[i]? =some c):jac s (a+i)=(c.toNat:Int):=by
 have e:s.extract a b=S l:=by
  apply ByteArray.ext
  apply Array.ext'
  rw[ByteArray.toList_eq]at h
  simpa [S]using h
 obtain⟨hlt,_⟩:=List.getElem?_eq_some_iff.mp hi
 have hz:(s.extract a b).size=l.length:=by rw[e,S_size]
 rw[ByteArray.size_extract]at hz
 rw[<- jc8 hb (by omega),e]
 exact jge hi
theorem jj5{s:ByteArray}{c:UInt8}(h:bB c s=true):5<s.size/\jac s 3=(c.toNat:Int)/\jac s 4=61:=by
 unfold bB at h
 simp only[Bool.and_eq_true,decide_eq_true_eq,beq_iff_eq]at h
 exact⟨h.1,jet (a:=3) (by omega) h.2 (i:=0) rfl,jet (a:=3) (by omega) h.2 (i:=1) rfl⟩
theorem j7b{s:ByteArray}(h:aB s=true):s.size=7/\jac s 0=108/\jac s 1=97/\jac s 2=115/\jac s 3=116:=by
 unfold aB at h
 simp only[Bool.and_eq_true,decide_eq_true_eq,beq_iff_eq]at h
 exact⟨h.1,jet (a:=0) (by omega) h.2 (i:=0) rfl,jet (a:=0) (by omega) h.2 (i:=1) rfl,jet (a:=0) (by omega) h.2 (i:=2) rfl,jet (a:=0) (by omega) h.2 (i:=3) rfl⟩
end
section
open Go.RowKit
theorem j4o{s:ByteArray}(h:2<s.size):twoN s= -1:=by unfold twoN;rw[if_neg (by omega)]
end
section
open Go.RowKit
theorem j04{k:Nat}(h:k<7):(wdNames.extract (k*3) ((k+1)*3)).size=3/\∀i,i<3->65<=jac (wdNames.extract (k*3) ((k+1)*3)) i:=by
 rcases(show k=0\/k=1\/k=2\/k=3\/k=4\/k=5\/k=6 by omega)with rfl|rfl|rfl|rfl|rfl|rfl|rfl<;>
 ·refine⟨rfl,fun i hi=>?_⟩
  rcases(show i=0\/i=1\/i=2 by omega)with rfl|rfl|rfl<;>decide
theorem toList_inj{s t:ByteArray}(h:s.toList=t.toList):s=t:=by
 rw[ByteArray.toList_eq,ByteArray.toList_eq]at h
 apply ByteArray.ext
 exact Array.ext' h
theorem j72{s t:ByteArray}{k n:Nat}(h:spG s t k n≠ -1):∃j,k<=j/\j<k+n/\spB s t j=true:=by
 induction n generalizing k with
 |zero=>exact absurd rfl h
 | succ n ih=>
  cases hb:spB s t k
  ·rw[jlv hb (by omega)]at h
   obtain⟨j,j1,j2,j3⟩:=ih h
   exact⟨j,by omega,by omega,j3⟩
  ·exact⟨k,by omega,by omega,hb⟩
theorem jlp{t:ByteArray}(h:wdN t≠ -1):t.size=3/\∀i,i<3->65<=jac t i:=by
 obtain⟨j,_,j2,j3⟩:=j72 h
 unfold spB at j3
 have e:=toList_inj (beq_iff_eq.mp j3)
 have:=j04 (k:=j) (by omega)
 rw[e]at this
 exact this
theorem occ_at{s:ByteArray}{a b:UInt8}{i:Nat}:Lib.occAt s.data.toList [a,b] i=true↔(i+2<=s.size/\jac s i=(a.toNat:Int)/\jac s (i+1)=(b.toNat:Int)):=by
 unfold Lib.occAt
 have hz:s.data.toList.length=s.size:=by rw[Array.length_toList];rfl
 rw[List.isPrefixOf_iff_prefix]
 constructor
 ·rintro⟨r,hr⟩
  have hl:=congrArg List.length hr
  simp[hz]at hl
  have g0:s.data.toList[i]? =some a:=by
   have:=congrArg (fun l=>l[0]?) hr;simpa using this.symm
  have g1:s.data.toList[i+1]? =some b:=by
   have:=congrArg (fun l=>l[1]?) hr;simpa using this.symm
  have es:s=S s.data.toList:=by apply ByteArray.ext;simp
  refine⟨by omega,?_,?_⟩
  ·rw[es];exact jge g0
  ·rw[es];exact jge g1
 ·rintro⟨h1,h2,h3⟩
  have e0:s.data.toList[i]'(by omega)=a:=by
   apply UInt8.toNat_inj.mp
   have:=jaf s i (by omega)
   rw[h2]at this
   have:s[i].toNat=a.toNat:=by omega
   exact this
  have e1:s.data.toList[i+1]'(by omega)=b:=by
   apply UInt8.toNat_inj.mp
   have:=jaf s (i+1) (by omega)
   rw[h3]at this
   have:s[i+1].toNat=b.toNat:=by omega
   exact this
  refine⟨s.data.toList.drop (i+2),?_⟩
  rw[List.drop_eq_getElem_cons (show i<s.data.toList.length by omega),List.drop_eq_getElem_cons (show i+1<s.data.toList.length by omega),e0,e1]
  rfl
theorem jy3{s:ByteArray}{a b:UInt8}(ha:a.toNat<65)(_hb:b.toNat<65)(h5:5<=s.size)(h3:jac s 3=(a.toNat:Int))(h4:jac s 4=(b.toNat:Int))(hl:∀i,i<3->65<=jac s i):
  cutA s a b=s.extract 0 3/\cutZ s a b=s.extract 5 s.size/\cutB s a b=true:=by
 have hz:s.data.toList.length=s.size:=by rw[Array.length_toList];rfl
 have hi:Lib.index s.data.toList [a,b]=(3:Nat):=by
  refine Lib.index_first (by omega) (occ_at.mpr ⟨by omega,h3,h4⟩) fun j hj=>?_
  cases ho:Lib.occAt s.data.toList [a,b] j
  ·rfl
  ·have:=(occ_at.mp ho).2.1
   have:=hl j hj
   omega
 have:=Lib.cutB_hit s ⟨#[a,b]⟩ 3 hi
 exact this
theorem jxx{l sub:List UInt8}{i:Nat}(h:Lib.index l sub=(i:Int)):Lib.occAt l sub i=true:=by
 induction l generalizing i with
 | nil=>
  unfold Lib.index at h
  split at h
  ·rename_i he
   obtain rfl:i=0:=by omega
   have:sub=[]:=by simpa using he
   subst this;rfl
  ·omega
 |cons c l ih=>
  unfold Lib.index at h
  split at h
  ·rename_i he
   obtain rfl:i=0:=by omega
   exact he
  ·split at h
   ·omega
   ·have:=Lib.index_ge l sub
    obtain⟨j,rfl⟩:∃j,i=j+1:=⟨i-1,by rename_i h1 h2;simp at h2;omega⟩
    exact ih (by omega)
theorem jmr{s:ByteArray}{a b:UInt8}(hb:cutB s a b=true)(hw:wdN (cutA s a b)≠ -1):
  5<=s.size/\jac s 3=(a.toNat:Int)/\jac s 4=(b.toNat:Int)/\cutA s a b=s.extract 0 3/\cutZ s a b=s.extract 5 s.size:=by
 rcases Lib.indexB_cases s ⟨#[a,b]⟩with hn|⟨i,hi,hle⟩
 ·have:=Lib.cutB_miss s ⟨#[a,b]⟩ hn
  unfold cutB at hb
  rw[this.2.2]at hb;cases hb
 ·have hc:=Lib.cutB_hit s ⟨#[a,b]⟩ i hi
  have eA:cutA s a b=s.extract 0 i:=hc.1
  have eZ:cutZ s a b=s.extract (i+2) s.size:=hc.2.1
  have hle':i+2<=s.size:=hle
  have h3:=(jlp hw).1
  rw[eA,ByteArray.size_extract]at h3
  have e3:i=3:=by omega
  subst e3
  have ho:=occ_at.mp (jxx (l:=s.data.toList) (sub:=[a,b]) hi)
  exact⟨by omega,ho.2.1,ho.2.2,eA,eZ⟩
theorem jl0{y m:Int}{s:ByteArray}(h:2<s.size):nbV y m s= -1000000:=by
 unfold nbV nbB;rw[if_neg (by simp;omega)]
end
section
open Go.RowKit
theorem jqu(s:ByteArray)(a b:Nat):(s.extract a b).toList=(s.data.toList.drop a).take (b-a):=by
 rw[ByteArray.toList_eq,ByteArray.data_extract]
 simp[List.take_drop]
theorem la_t{s:ByteArray}(h:laB s=true):4<=s.size/\laR s=s.extract 4 s.size/\(s.extract 0 4).toList=[108,97,115,116]:=by
 have hz:s.data.toList.length=s.size:=by rw[Array.length_toList];rfl
 have h':=h
 unfold laB Lib.hasPrefix at h
 rw[List.isPrefixOf_iff_prefix]at h
 obtain⟨r,hr⟩:=h
 have hl:=congrArg List.length hr
 simp[hz]at hl
 refine⟨by omega,?_,?_⟩
 ·unfold laR Lib.trimPrefix
  unfold laB at h'
  rw[if_pos h']
  apply toList_inj
  rw[jqu,ByteArray.toList_eq,List.take_of_length_le (by simp[hz])]
  simp
 ·rw[jqu, <- hr];rfl
theorem la_of{s:ByteArray}(h:(s.extract 0 4).toList=[108,97,115,116]):laB s=true:=by
 unfold laB Lib.hasPrefix
 rw[List.isPrefixOf_iff_prefix]
 rw[jqu]at h
 refine⟨s.data.toList.drop 4,?_⟩
 rw[<- h]
 simp
theorem j9d{s:ByteArray}{c:UInt8}(h5:5<s.size)(h3:jac s 3=(c.toNat:Int))(h4:jac s 4=61):bB c s=true:=by
 have e:s.extract 3 5=S [c,61]:=by
  have hz:(s.extract 3 5).size=2:=by rw[ByteArray.size_extract];omega
  apply jzf (by rw[hz,S_size];rfl)
  intro i hi
  rcases(show i=0\/i=1 by omega)with rfl|rfl
  ·rw[jc8 (by omega) (by omega),jge (l:=[c,61]) (i:=0) (c:=c) rfl];exact h3
  ·rw[jc8 (by omega) (by omega),jge (l:=[c,61]) (i:=1) (c:=61) rfl];exact h4
 unfold bB
 rw[e,decide_eq_true h5]
 simp[ByteArray.toList_eq]
theorem jlr{v d:Int}(h:jdh v d≠ -1000000):v≠ -1/\d≠ -1000000:=by
 unfold jdh at h
 by_cases hc:v= -1\/d= -1000000
 ·rw[if_pos hc]at h;exact absurd rfl h
 ·omega
theorem jqo{v d:Int}(h:jf8 v d≠ -1000000):v≠ -1/\d≠ -1000000:=by
 unfold jf8 at h
 by_cases hc:v= -1\/d= -1000000
 ·rw[if_pos hc]at h;exact absurd rfl h
 ·omega
theorem jrs(y m:Int){t:ByteArray}(h:t.size=0):nbV y m t= -1000000:=by
 unfold nbV nbB;rw[jsn h];simp
theorem juf{y m:Int}{s:ByteArray}(h:jgb y m s≠ -1000000):bB 62 s=true:=by
 unfold jgb at h
 cases hb:cutB s 62 61
 ·rw[hb]at h;exact absurd rfl h
 ·rw[hb,if_pos rfl]at h
  have ⟨h1,h2⟩:=jqo h
  obtain⟨c1,c2,c3,c4,c5⟩:=jmr hb h1
  refine j9d ?_ c2 c3
  rcases Nat.lt_or_ge 5 s.size with hl|hl
  ·exact hl
  ·exact absurd (jrs y m (by rw[c5,ByteArray.size_extract];omega)) h2
theorem jnr{y m:Int}{s:ByteArray}(h:jka y m s≠ -1000000):bB 60 s=true:=by
 unfold jka at h
 cases hb:cutB s 60 61
 ·rw[hb]at h;exact absurd rfl h
 ·rw[hb,if_pos rfl]at h
  have ⟨h1,h2⟩:=jlr h
  obtain⟨c1,c2,c3,c4,c5⟩:=jmr hb h1
  refine j9d ?_ c2 c3
  rcases Nat.lt_or_ge 5 s.size with hl|hl
  ·exact hl
  ·exact absurd (jrs y m (by rw[c5,ByteArray.size_extract];omega)) h2
theorem jr2{y m:Int}{s:ByteArray}(h:lomV y m s≠ -1000000):aB s=true/\wdN (s.extract 4 7)≠ -1/\lomV y m s=jdh (wdN (s.extract 4 7)) (num y m (Cal.dim y m)):=by
 unfold lomV at h ⊢
 cases hb:laB s
 ·rw[hb]at h;exact absurd rfl h
 ·rw[hb,if_pos rfl]at h
  have ⟨h1,h2⟩:=jlr h
  obtain⟨l1,l2,l3⟩:=la_t hb
  have hz:=(jlp h1).1
  rw[l2,ByteArray.size_extract]at hz
  have h7:s.size=7:=by omega
  rw[l2,h7]at h1
  refine⟨by unfold aB;rw[l3,decide_eq_true h7];rfl,h1,?_⟩
  rw[if_pos rfl,l2,h7]
theorem j63{s:ByteArray}(h1:bB 62 s=true)(h2:bB 60 s=true):False:=by
 have a:=(jj5 h1).2.1
 have b:=(jj5 h2).2.1
 rw[a]at b
 exact absurd b (by decide)
theorem jsh{s:ByteArray}{c:UInt8}(hc:c.toNat<65)(h:bB c s=true):(wdN (s.extract 0 3)≠ -1->cutB s c 61=true/\cutA s c 61=s.extract 0 3/\cutZ s c 61=s.extract 5 s.size)/\(wdN (s.extract 0 3)= -1->cutB s c 61=true->wdN (cutA s c 61)= -1):=by
 obtain⟨h5,h3,h4⟩:=jj5 h
 constructor
 ·intro hw
  have hl:=(jlp hw).2
  have:=jy3 (s:=s) (a:=c) (b:=61) hc (by decide) (by omega) h3 h4 (fun i hi=>by have:=hl i hi;rw[jc8 (by omega) (by omega)]at this;simpa using this)
  exact⟨this.2.2,this.1,this.2.1⟩
 ·intro hw hb
  refine Classical.byContradiction fun hn=>?_
  obtain⟨_,_,_,c4,_⟩:=jmr hb hn
  rw[c4]at hn
  exact hn hw
theorem jlz{y m:Int}(hy:ymB y m=true)(s:ByteArray):onV y m s=moV y m s:=by
 have nl:=jk8 (jep hy)
 unfold onV moV
 by_cases hA:aB s=true/\wdN (s.extract 4 7)≠ -1
 ·rw[if_pos hA]
  have h7:=(j7b hA.1).1
  have hl:lomV y m s=jdh (wdN (s.extract 4 7)) (num y m (Cal.dim y m)):=by
   have l3:(s.extract 0 4).toList=[108,97,115,116]:=by have:=hA.1;unfold aB at this;simp only[Bool.and_eq_true,beq_iff_eq]at this;exact this.2
   have hb:=la_of l3
   unfold lomV
   rw[if_pos hb,(la_t hb).2.1,h7]
  have hne:lomV y m s≠ -1000000:=by
   rw[hl];unfold jdh
   have:=je1 (s.extract 4 7)
   rw[if_neg (by omega)]
   omega
  unfold orV
  rw[jl0 (by omega),if_pos rfl,if_neg hne,hl]
 ·rw[if_neg hA]
  have hlo:lomV y m s= -1000000:=Classical.byContradiction fun hn=>hA ⟨(jr2 hn).1,(jr2 hn).2.1⟩
  rw[hlo]
  cases h1:bB 62 s
  ·have hfi:jgb y m s= -1000000:=Classical.byContradiction fun hn=>by rw[juf hn]at h1;cases h1
   rw[hfi,if_neg (by simp)]
   cases h2:bB 60 s
   ·have hla:jka y m s= -1000000:=Classical.byContradiction fun hn=>by rw[jnr hn]at h2;cases h2
    rw[hla,if_neg (by simp)]
    unfold orV
    by_cases hn:nbV y m s= -1000000
    ·rw[hn];rfl
    ·rw[if_neg hn]
   ·rw[if_pos rfl,jl0 (by have:=(jj5 h2).1;omega)]
    have ⟨f1,f2⟩:=jsh (s:=s) (c:=60) (by decide) h2
    have:jka y m s=jdh (wdN (s.extract 0 3)) (nbV y m (s.extract 5 s.size)):=by
     unfold jka
     by_cases hw:wdN (s.extract 0 3)= -1
     ·have e:jdh (wdN (s.extract 0 3)) (nbV y m (s.extract 5 s.size))= -1000000:=by unfold jdh;rw[if_pos (.inl hw)]
      rw[e]
      cases hb:cutB s 60 61
      ·rfl
      ·rw[if_pos rfl,f2 hw hb];unfold jdh;rw[if_pos (.inl rfl)]
     ·have ⟨g1,g2,g3⟩:=f1 hw
      rw[if_pos g1,g2,g3]
    rw[this];rfl
  ·rw[if_pos rfl,jl0 (by have:=(jj5 h1).1;omega)]
   have hla:jka y m s= -1000000:=Classical.byContradiction fun hn=>j63 h1 (jnr hn)
   have ⟨f1,f2⟩:=jsh (s:=s) (c:=62) (by decide) h1
   have:jgb y m s=jf8 (wdN (s.extract 0 3)) (nbV y m (s.extract 5 s.size)):=by
    unfold jgb
    by_cases hw:wdN (s.extract 0 3)= -1
    ·have e:jf8 (wdN (s.extract 0 3)) (nbV y m (s.extract 5 s.size))= -1000000:=by unfold jf8;rw[if_pos (.inl hw)]
     rw[e]
     cases hb:cutB s 62 61
     ·rfl
     ·rw[if_pos rfl,f2 hw hb];unfold jf8;rw[if_pos (.inl rfl)]
    ·have ⟨g1,g2,g3⟩:=f1 hw
     rw[if_pos g1,g2,g3]
   rw[this,hla]
   unfold orV
   rw[if_pos rfl,if_pos rfl]
   by_cases hn:jf8 (wdN (s.extract 0 3)) (nbV y m (s.extract 5 s.size))= -1000000
   ·rw[if_pos hn,hn]
   ·rw[if_neg hn]
end
section
open Go.RowKit
theorem jtb{y m:Int}{s:ByteArray}(h:jbp y m s≠ -1000000):ymB y m=true/\
  ((s.size<3/\num y m 1<=jbp y m s/\jbp y m s<=num y m 1+Cal.dim y m-1)\/
  (aB s=true/\wdN (s.extract 4 7)=(jbp y m s+719163)%7/\jbp y m s<=num y m 1+Cal.dim y m-1/\num y m 1+Cal.dim y m-1-7<jbp y m s)\/
  (bB 62 s=true/\wdN (s.extract 0 3)=(jbp y m s+719163)%7/\∃k,jbp y m (s.extract 5 s.size)=k/\k<=jbp y m s/\jbp y m s<k+7/\ -719162<=k/\k<=2932896)\/
  (bB 60 s=true/\wdN (s.extract 0 3)=(jbp y m s+719163)%7/\∃k,jbp y m (s.extract 5 s.size)=k/\jbp y m s<=k/\k-7<jbp y m s/\ -719162<=k/\k<=2932896)):=by
 cases hy:ymB y m
 ·exact absurd (by unfold jbp;rw[hy];rfl) h
 refine⟨rfl,?_⟩
 have ht:∀s,jbp y m s=moV y m s:=fun s=>by unfold jbp;rw[hy,if_pos rfl,jlz hy]
 have hk:∀t,nbV y m t≠ -1000000->jbp y m t=nbV y m t:=fun t hn=>by
  unfold jbp onV orV;rw[hy,if_pos rfl,if_neg hn]
 rw[ht]at h ⊢
 have nl:=jk8 (jep hy)
 unfold moV at h ⊢
 by_cases hA:aB s=true/\wdN (s.extract 4 7)≠ -1
 ·rw[if_pos hA]at h ⊢
  right;left
  have hb:=je1 (s.extract 4 7)
  unfold jdh
  rw[if_neg (by omega)]
  rw[jr8]at nl ⊢
  exact⟨hA.1,by omega,by omega,by omega⟩
 ·rw [if_neg hA]at h ⊢
  cases h1:bB 62 s
  ·rw[h1,if_neg (by simp)]at h
   rw[if_neg (by simp)]
   cases h2:bB 60 s
   ·rw[h2,if_neg (by simp)]at h
    rw[if_neg (by simp)]
    left
    have e:=j8e hy s
    by_cases hc:1<=twoN s/\twoN s<=Cal.dim y m
    ·rw[if_pos hc]at e
     rw[e]
     refine⟨?_,by omega,by omega⟩
     rcases Nat.lt_or_ge s.size 3 with hl|hl
     ·exact hl
     ·have:=j4o (s:=s) (by omega);omega
    ·rw[if_neg hc]at e
     exact absurd e h
   ·rw[h2,if_pos rfl]at h
    rw[if_pos rfl]
    right;right;right
    have ⟨u1,u2⟩:=jlr h
    have hb:=je1 (s.extract 0 3)
    have nb:=jrt y m (s.extract 5 s.size)
    refine⟨rfl,?_,_,hk _ u2,?_,?_,by omega,by omega⟩
    all_goals (unfold jdh;rw[if_neg (by omega)];omega)
  ·rw[h1,if_pos rfl]at h
   rw[if_pos rfl]
   right;right;left
   have ⟨u1,u2⟩:=jqo h
   have hb:=je1 (s.extract 0 3)
   have nb:=jrt y m (s.extract 5 s.size)
   refine⟨rfl,?_,_,hk _ u2,?_,?_,by omega,by omega⟩
   all_goals (unfold jf8;rw[if_neg (by omega)];omega)
theorem j4r{y m:Int}{s:ByteArray}:jbp y m s= -1000000\/(-800000<=jbp y m s/\jbp y m s<=3000000):=by
 by_cases h:jbp y m s= -1000000
 ·exact .inl h
 ·right
  obtain⟨hy,hf⟩:=jtb h
  have ⟨y1,y2,m1,m2⟩:=jpd hy
  have dm:=Cal.dim_bd y m
  have nl:=jk8 (jep hy)
  rw[jr8]at nl
  rcases hf with⟨_,_,_⟩|⟨_,_,_,_⟩|⟨_,_,k,_,_,_,_,_⟩|⟨_,_,k,_,_,_,_,_⟩<;>omega
end
end Go.Proofs.YtofdpfpdocpbpaaGreatDoor
